/-
  Lists whose numbers change, and the sums of the product of two lists. No conditions.
-/
import Derived.Test.YtdpiclmjdcjajaaFB
namespace Go.Proofs.Ytdpiclmjdcjajaa
open Go.RowKit Num

/-- A list that the call itself made: all its numbers, in any form. -/
def LstM (B g n K : Nat) (F : Nat → Rat) (w : World) : Prop :=
  ∃ xs : List Value, BoxV w B g 24 xs ∧ xs.length = n * 3 ∧ NoLimb xs ∧ ∀ j, j < n → ∃ x y z, xs[j * 3]? = some x ∧ xs[j * 3 + 1]? = some y ∧ xs[j * 3 + 2]? = some z ∧ RatA w (.agg #[x, y, z]) K (F j)
theorem LstM.below {B g n K : Nat} {F : Nat → Rat} {w w' : World} (h : LstM B g n K F w) (hb : Below w.heap.size w w') : LstM B g n K F w' := by
  obtain ⟨xs, h1, h2, h3, h4⟩ := h
  refine ⟨xs, h1.below hb, h2, h3, fun j hj => ?_⟩
  obtain ⟨x, y, z, a, b, c, hr⟩ := h4 j hj
  exact ⟨x, y, z, a, b, c, hr.below hb⟩
theorem LstM.new (w : World) (B n K : Nat) (hB : B ≤ w.heap.size) : LstM B w.heap.size n K (fun _ => 0) (w.alloc (.cells (madeCells #[.bool false, .slice none 0 0, .slice none 0 0] (n * 3)) 24)) := by
  have get : ∀ i, i < n * 3 → (madeCells #[.bool false, .slice none 0 0, .slice none 0 0] (n * 3)).toList[i]? = some ((#[.bool false, .slice none 0 0, .slice none 0 0] : Array Value)[i % 3]!) := by
    intro i hi
    unfold madeCells
    simp [hi]
  refine ⟨(madeCells #[.bool false, .slice none 0 0, .slice none 0 0] (n * 3)).toList, BoxV.new w B 24 hB _, by rw [Array.length_toList, size_madeCells], noLimb_made _, fun j hj => ⟨.bool false, .slice none 0 0, .slice none 0 0, ?_, ?_, ?_, ratA_zero _ _⟩⟩
  · rw [get _ (by omega), show j * 3 % 3 = 0 by omega]; rfl
  · rw [get _ (by omega), show (j * 3 + 1) % 3 = 1 by omega]; rfl
  · rw [get _ (by omega), show (j * 3 + 2) % 3 = 2 by omega]; rfl
theorem LstM.toA {B g n K : Nat} {F : Nat → Rat} {w : World} (h : LstM B g n K F w) (hn : n ≤ 9223372036854775807) : LstA w (.slice (some ⟨g, 0, none⟩) n n) n K F := by
  obtain ⟨xs, h1, h2, h3, h4⟩ := h
  refine ⟨_, _, rfl, Nat.le_refl _, hn, fun i hi => ?_⟩
  obtain ⟨x, y, z, e1, e2, e3, hr⟩ := h4 i hi
  refine ⟨g, 0, x, y, z, rfl, ?_, ?_, ?_, hr⟩ <;> rw [Nat.zero_add, h1.cell _ (by omega)]
  · exact e1
  · exact e2
  · exact e3
theorem LstM.congr {B g n K : Nat} {F F' : Nat → Rat} {w : World} (h : LstM B g n K F w) (e : ∀ j, j < n → F j = F' j) : LstM B g n K F' w := by
  obtain ⟨xs, h1, h2, h3, h4⟩ := h
  exact ⟨xs, h1, h2, h3, fun j hj => by rw [← e j hj]; exact h4 j hj⟩
/-- One number is stored. -/
theorem LstM.store {B g n K i : Nat} {F F' : Nat → Rat} {w : World} {b : Bool} {a a' : Option Addr} {m c m' c' : Nat} (h : LstM B g n K F w) (hi : i < n) (hr : RatA w (.agg #[.bool b, .slice a m c, .slice a' m' c']) K (F' i)) (he : ∀ j, j ≠ i → F' j = F j) :
    LstM B g n K F' (((w.setCell ⟨g, i * 3, none⟩ (.bool b)).setCell ⟨g, i * 3 + 1, none⟩ (.slice a m c)).setCell ⟨g, i * 3 + 2, none⟩ (.slice a' m' c')) := by
  obtain ⟨xs, h1, h2, h3, h4⟩ := h
  have hgr := grown_setL w g (i * 3) (.bool b) (.slice a m c) (.slice a' m' c')
  refine ⟨((xs.set (i * 3) (.bool b)).set (i * 3 + 1) (.slice a m c)).set (i * 3 + 2) (.slice a' m' c'), boxV_set (boxV_set (boxV_set h1 _ _) _ _) _ _, by simpa using h2, ?_, fun j hj => ?_⟩
  · intro x hx m
    rcases List.mem_or_eq_of_mem_set hx with hx | rfl
    · rcases List.mem_or_eq_of_mem_set hx with hx | rfl
      · rcases List.mem_or_eq_of_mem_set hx with hx | rfl
        · exact h3 x hx m
        · simp
      · simp
    · simp
  · by_cases hjq : j = i
    · subst hjq
      refine ⟨_, _, _, ?_, ?_, ?_, hr.other h1 h3 hgr⟩
      · simp [List.getElem?_set]; omega
      · simp [List.getElem?_set]; omega
      · simp [List.getElem?_set]; omega
    · obtain ⟨x, y, z, e1, e2, e3, hx⟩ := h4 j hj
      rw [← he j hjq] at hx
      refine ⟨x, y, z, ?_, ?_, ?_, hx.other h1 h3 hgr⟩
      · rw [List.getElem?_set_ne (by omega), List.getElem?_set_ne (by omega), List.getElem?_set_ne (by omega)]; exact e1
      · rw [List.getElem?_set_ne (by omega), List.getElem?_set_ne (by omega), List.getElem?_set_ne (by omega)]; exact e2
      · rw [List.getElem?_set_ne (by omega), List.getElem?_set_ne (by omega), List.getElem?_set_ne (by omega)]; exact e3
/-- A number is stored into an element at the region's end. -/
theorem e_storeM {ops : Array Oper} {Q : Exit → Act → World → Prop} {K0 : Act → World → Prop} {m t u B g n K i : Nat} {F F' : Nat → Rat} {a : Act} {w : World} {ty : TypeId} {pos : String} {es : Array Edge}
    (ho : ops[m]? = some ⟨none, .store 24 (.tmp t) (.tmp u), ty, pos, es, none⟩) (ht : a.tmps.getD t undef = .pointer (some ⟨g, 0 + i * 3, none⟩)) (hL : LstM B g n K F w) (hi : i < n) (hu : RatC w (a.tmps.getD u undef) (F' i)) (hs : Sz (F' i) K) (he : ∀ j, j ≠ i → F' j = F j)
    (h : ∀ v0 v1 v2, LstM B g n K F' (((w.setCell ⟨g, i * 3, none⟩ v0).setCell ⟨g, i * 3 + 1, none⟩ v1).setCell ⟨g, i * 3 + 2, none⟩ v2) → K0 a (((w.setCell ⟨g, i * 3, none⟩ v0).setCell ⟨g, i * 3 + 1, none⟩ v1).setCell ⟨g, i * 3 + 2, none⟩ v2)) :
    wpOp Try.prog ops Q m K0 a w := by
  have hC := hu.a hs
  obtain ⟨an, ln, cn, ad, ld, cd, hv, hn, hd⟩ := hu
  rw [hv] at hC
  have hT := hL.store hi hC he
  obtain ⟨xs, l1, l2, l3, _⟩ := hL
  have hxl : i * 3 + 2 < xs.length := by omega
  have t0 : w.cell? ⟨g, i * 3, none⟩ = some xs[i * 3] := by rw [l1.cell _ (by omega)]; exact List.getElem?_eq_getElem _
  have t1 : w.cell? ⟨g, i * 3 + 1, none⟩ = some xs[i * 3 + 1] := by rw [l1.cell _ (by omega)]; exact List.getElem?_eq_getElem _
  have t2 : w.cell? ⟨g, i * 3 + 2, none⟩ = some xs[i * 3 + 2] := by rw [l1.cell _ (by omega)]; exact List.getElem?_eq_getElem _
  unfold wpOp
  rw [ho]
  simp only [Region.wanted, if_true]
  left
  unfold Oper.wp
  rw [Nat.zero_add] at ht
  rw [run_storeL a none ty pos es w t u g (i * 3) _ an ad ln cn ld cd _ _ _ ht hv t0 t1 t2 (l1.frozen _) (l1.frozen _) (l1.frozen _), Oper.upon_skip]
  exact h _ _ _ hT

section
variable {κ : Tmp → Ke} {G : Nat → Option Tmp} {d s t u c : Tmp} {ty : TypeId} {pos : String} {es : Array Edge} {k k' K : Nat} {p q : Rat} {f : Nat → Rat}
theorem e_idxM {g n cap i : Nat} (ht : κ t = .lsa (.slice (some ⟨g, 0, none⟩) n cap) n K f) (hu : κ u = .con (.int .i64 i)) (hd : κ d = .con (.pointer (some ⟨g, 0 + i * 3, none⟩))) (hi : i < n) : FlowStep Try.prog (Fe κ) G ⟨some d, .indexAddr 32 (.tmp t) (.tmp u), ty, pos, es, none⟩ := by
  refine e_step rfl fun a w Q hf' => ?_
  have h := hf' t (by simp [Op.operands])
  have h' := hf' u (by simp [Op.operands])
  rw [ht] at h
  rw [hu] at h'
  obtain ⟨e1, h1⟩ := (show a.tmps.getD t undef = .slice (some ⟨g, 0, none⟩) n cap ∧ LstA w _ n K f from h)
  unfold Oper.wp
  rw [run_idxL _ _ _ _ _ _ _ _ g 0 n cap i e1 h' hi, Oper.upon_value]
  exact ⟨_, rfl, Below.refl _ _, fun d' hd' => by cases hd'; rw [hd]; rfl⟩
theorem c2_70 (a : Act) (d : Option Tmp) (ty : TypeId) (pos : String) (es : Array Edge) (t u : Tmp) (w : World) :
    Sem.run Try.prog (execOp a.eval ⟨d, .call ⟨.value (.func 70), #[.tmp t, .tmp u], #[24, 24]⟩, ty, pos, es, none⟩) w = .ok (.enter 70 #[a.tmps.getD t undef, a.tmps.getD u undef]) w := by go_simp
theorem e_add70 (ht : κ t = .ra k p) (hu : κ u = .rc k' q) (hd : κ d = .ratC (p + q)) (hk : k + k' ≤ 20000) :
    FlowStep Try.prog (Fe κ) G ⟨some d, .call ⟨.value (.func 70), #[.tmp t, .tmp u], #[24, 24]⟩, ty, pos, es, none⟩ :=
  e_c2 (fun a w => c2_70 _ _ _ _ _ _ _ _) fun w x y hx hy => by
    rw [ht] at hx
    rw [hu] at hy
    have hx : RatA w x k p := hx
    obtain ⟨hy1, hy2⟩ := (show RatC w y q ∧ Sz q k' from hy)
    refine (add_a (k := k + k') (hx.le (by omega)) ((hy1.a hy2).le (by omega)) hk).mono ?_
    rintro e w' ⟨v, rfl, hv, hb⟩
    exact ⟨v, rfl, by rw [hd]; exact hv, hb⟩
theorem c1_57t (a : Act) (d : Option Tmp) (ty : TypeId) (pos : String) (es : Array Edge) (t : Tmp) (w : World) :
    Sem.run Try.prog (execOp a.eval ⟨d, .call ⟨.value (.func 57), #[.tmp t], #[2]⟩, ty, pos, es, none⟩) w = .ok (.enter 57 #[a.tmps.getD t undef]) w := by go_simp
theorem e_from57 {n : Int} (ht : κ t = .con (.int .i64 n)) (hd : κ d = .rc k (quo n 1)) (h1 : -9223372036854775808 ≤ n) (h2 : n ≤ 9223372036854775807) (hs : Sz (quo n 1) k) :
    FlowStep Try.prog (Fe κ) G ⟨some d, .call ⟨.value (.func 57), #[.tmp t], #[2]⟩, ty, pos, es, none⟩ := by
  refine e_step rfl fun a w Q hf => ?_
  have h := hf t (by simp [Op.operands, Call.operands])
  rw [ht] at h
  have h : a.tmps.getD t undef = .int .i64 n := h
  unfold Oper.wp
  rw [c1_57t, h, Oper.upon_enter]
  refine (fromInt_any n w h1 h2).mono ?_
  rintro e w' ⟨v, rfl, hv, hb⟩
  exact ⟨v, rfl, hb, fun d' hd' => by cases hd'; rw [hd]; exact ⟨hv, hs⟩⟩
/-- Both in any form. -/
theorem e_mulAA (ht : κ t = .ra k p) (hu : κ u = .ra k' q) (hd : κ d = .ratC (p * q)) (hk : k + k' ≤ 20000) :
    FlowStep Try.prog (Fe κ) G ⟨some d, .call ⟨.value (.func 73), #[.tmp t, .tmp u], #[24, 24]⟩, ty, pos, es, none⟩ :=
  e_c2 (fun a w => c2_73b _ _ _ _ _ _ _ _) fun w x y hx hy => by
    rw [ht] at hx
    rw [hu] at hy
    have hx : RatA w x k p := hx
    have hy : RatA w y k' q := hy
    refine (mul_a (k := k + k') (hx.le (by omega)) (hy.le (by omega)) hk).mono ?_
    rintro e w' ⟨v, rfl, hv, hb⟩
    exact ⟨v, rfl, by rw [hd]; exact hv, hb⟩
end

/-! The sums -/
def tPQ (f g : Nat → Rat) (a b k : Nat) : Rat := f a * g b * ((pc a b k : Nat) : Rat)
/-- What is summed when the pairs before (a, b) are done. -/
def partM (n2 : Nat) (f g : Nat → Rat) (a b k : Nat) : Rat := sumN (fun a' => sumN (fun b' => tPQ f g a' b' k) n2) a + sumN (fun b' => tPQ f g a b' k) b
/-- The same within a pair, the elements before k0 done. -/
def innM (n2 : Nat) (f g : Nat → Rat) (a b k0 j : Nat) : Rat := if j < k0 then partM n2 f g a (b + 1) j else partM n2 f g a b j
theorem partM_zero (n2 : Nat) (f g : Nat → Rat) (k : Nat) : partM n2 f g 0 0 k = 0 := by
  show (0 : Rat) + 0 = 0
  grind
theorem partM_b (n2 : Nat) (f g : Nat → Rat) (a b k : Nat) : partM n2 f g a b k + tPQ f g a b k = partM n2 f g a (b + 1) k := by
  show sumN _ a + sumN _ b + _ = sumN _ a + (sumN _ b + _)
  grind
theorem partM_a (n2 : Nat) (f g : Nat → Rat) (a k : Nat) : partM n2 f g a n2 k = partM n2 f g (a + 1) 0 k := by
  show sumN _ a + sumN _ n2 = sumN _ a + sumN _ n2 + 0
  grind
theorem partM_end (n1 n2 : Nat) (f g : Nat → Rat) (k : Nat) : partM n2 f g n1 0 k = mulC n1 n2 f g k := by
  show sumN _ n1 + 0 = _
  rw [Rat.add_zero]
  rfl
theorem tPQ_none {f g : Nat → Rat} {a b k : Nat} (h : ¬ (a ≤ k ∧ b ≤ k ∧ k < a + b + 1)) : tPQ f g a b k = 0 := by
  unfold tPQ
  rw [pc_none h]
  exact Rat.mul_zero _
theorem innM_start {n2 : Nat} {f g : Nat → Rat} {a b k0 : Nat} (h : k0 ≤ a ∨ k0 ≤ b) (j : Nat) : partM n2 f g a b j = innM n2 f g a b k0 j := by
  unfold innM
  split
  · rw [← partM_b, tPQ_none (by omega)]
    grind
  · rfl
theorem innM_end {n2 : Nat} {f g : Nat → Rat} {a b k0 : Nat} (h : a + b < k0) (j : Nat) : innM n2 f g a b k0 j = partM n2 f g a (b + 1) j := by
  unfold innM
  split
  · rfl
  · rw [← partM_b, tPQ_none (by omega)]
    grind
theorem innM_at {n2 : Nat} {f g : Nat → Rat} {a b k : Nat} : innM n2 f g a b k k + tPQ f g a b k = innM n2 f g a b (k + 1) k := by
  unfold innM
  rw [if_neg (by omega), if_pos (by omega), partM_b]
theorem innM_other {n2 : Nat} {f g : Nat → Rat} {a b k j : Nat} (h : j ≠ k) : innM n2 f g a b (k + 1) j = innM n2 f g a b k j := by
  unfold innM
  by_cases h1 : j < k
  · rw [if_pos h1, if_pos (by omega)]
  · rw [if_neg h1, if_neg (by omega)]
theorem pc_le {a b k : Nat} (h : a + b ≤ 32) : pc a b k ≤ pw 2 := by
  by_cases hk : k ≤ 32
  · exact Nat.le_trans (prow_small2 (k := a + b + 1) h hk) (by unfold pw; decide)
  · rw [pc_none (by omega)]
    exact Nat.zero_le _
theorem wh_tPQ {f g : Nat → Rat} {kf kg a b k : Nat} (hf : Wh 1 (pw kf) (f a)) (hg : Wh 1 (pw kg) (g b)) (h : a + b ≤ 32) : Wh 1 (pw (kf + kg + 2)) (tPQ f g a b k) := by
  have h1 := (hf.mul hg).mul ((wh_int ((pc a b k : Nat) : Int)).le (show ((pc a b k : Nat) : Int).natAbs ≤ pw 2 by rw [Int.natAbs_natCast]; exact pc_le h))
  rw [← pw_add, ← pw_add] at h1
  exact h1
theorem wh_partM {f g : Nat → Rat} {n1 n2 kf kg a b k : Nat} (hf : ∀ i, i < n1 → Wh 1 (pw kf) (f i)) (hg : ∀ i, i < n2 → Wh 1 (pw kg) (g i)) (h : n1 + n2 ≤ 34) (h2 : n2 ≤ 33) (ha : (a < n1 ∧ b ≤ n2) ∨ (a = n1 ∧ b = 0)) : Wh 1 (pw (kf + kg + 4)) (partM n2 f g a b k) := by
  have h1 : Wh 1 (a * (n2 * pw (kf + kg + 2))) (sumN (fun a' => sumN (fun b' => tPQ f g a' b' k) n2) a) := wh_sum a fun i hi => wh_sum n2 fun j hj => wh_tPQ (hf i (by omega)) (hg j hj) (by omega)
  have h3 : Wh 1 (b * pw (kf + kg + 2)) (sumN (fun b' => tPQ f g a b' k) b) := wh_sum b fun j hj => wh_tPQ (hf a (by omega)) (hg j (by omega)) (by omega)
  refine (h1.add h3).le ?_
  rw [← Nat.mul_assoc, ← Nat.add_mul, show kf + kg + 4 = 2 + (kf + kg + 2) by omega, pw_add 2]
  refine Nat.mul_le_mul_right _ ?_
  have e1 := Nat.mul_le_mul (show a ≤ 34 by omega) h2
  have : pw 2 = 1000000000000000000 := by unfold pw; decide
  omega
theorem sz_of_wh1 {x : Rat} {k : Nat} (h : Wh 1 (pw k) x) : Sz x (k + 1) := h.sz Nat.one_pos (Nat.lt_of_lt_of_le (show 1 < pw 1 by unfold pw; omega) (pw_le (by omega))) (pw_lt (by omega)) (by omega)
theorem sz_partM {f g : Nat → Rat} {n1 n2 kf kg a b k : Nat} (hf : ∀ i, i < n1 → Wh 1 (pw kf) (f i)) (hg : ∀ i, i < n2 → Wh 1 (pw kg) (g i)) (h : n1 + n2 ≤ 34) (h2 : n2 ≤ 33) (ha : (a < n1 ∧ b ≤ n2) ∨ (a = n1 ∧ b = 0)) : Sz (partM n2 f g a b k) (kf + kg + 5) := sz_of_wh1 (wh_partM hf hg h h2 ha)
theorem sz_innM {f g : Nat → Rat} {n1 n2 kf kg a b k j : Nat} (hf : ∀ i, i < n1 → Wh 1 (pw kf) (f i)) (hg : ∀ i, i < n2 → Wh 1 (pw kg) (g i)) (h : n1 + n2 ≤ 34) (h2 : n2 ≤ 33) (ha : a < n1) (hb : b < n2) : Sz (innM n2 f g a b k j) (kf + kg + 5) := by
  unfold innM
  split
  · exact sz_partM hf hg h h2 (.inl ⟨ha, by omega⟩)
  · exact sz_partM hf hg h h2 (.inl ⟨ha, by omega⟩)
theorem tPQ_row (f g : Nat → Rat) (a b k : Nat) : f a * g b * quo ((prow a b (a + b + 1) k : Nat) : Int) 1 = tPQ f g a b k := by
  unfold tPQ
  rw [← prQ_pc]
  rfl
end Go.Proofs.Ytdpiclmjdcjajaa

/-
  The walk of multiplyIntegers. Conditions: two lists of canonical whole numbers, not empty, of at most 34 numbers together.
-/
namespace Go.Proofs.Ytdpiclmjdcjajaa
open Go.RowKit Num

/-- A variable that the region made. -/
def Ke.bxn (B K : Nat) (p : Rat) : Ke := ⟨fun w v => (Ke.box K p).holds w v ∧ ∃ g, v = .pointer (some ⟨g, 0, none⟩) ∧ B ≤ g, fun hb ⟨h, e⟩ => ⟨(Ke.box K p).below hb h, e⟩⟩
def oneBox (t0 B K : Nat) (I : Rat) : Tmp → Ke := fun t => if t = t0 then .bxn B K I else .any
theorem box_store {κ : Tmp → Ke} {t0 B K : Nat} {I : Rat} {w : World} {g : Nat} {an ad : Option Addr} {ln cn ld cd : Nat} (hB : BoxV w B g 24 [.bool false, .slice none 0 0, .slice none 0 0]) (hs : Sz I K) (hR : RatC w (.agg #[.bool (decide (I.num < 0)), .slice an ln cn, .slice ad ld cd]) I)
    (a : Act) (e3 : a.tmps.getD t0 undef = .pointer (some ⟨g, 0, none⟩)) (t : Tmp) (_ : Fe κ t w (a.tmps.getD t undef)) :
    Fe (oneBox t0 B K I) t (((w.setCell ⟨g, 0, none⟩ (.bool (decide (I.num < 0)))).setCell ⟨g, 1, none⟩ (.slice an ln cn)).setCell ⟨g, 2, none⟩ (.slice ad ld cd)) (a.tmps.getD t undef) := by
  by_cases h3 : t = t0
  · subst h3
    have e : oneBox t B K I t = .bxn B K I := if_pos rfl
    show (oneBox t B K I t).holds _ _
    rw [e]
    obtain ⟨⟨c0, c1, c2⟩, _⟩ := (hB.store3 (.bool (decide (I.num < 0))) (.slice an ln cn) (.slice ad ld cd)).three
    exact ⟨⟨g, _, _, _, e3, c0, c1, c2, hR.other hB noLimb_nil3 (grown_set3 w g _ _ _), hs⟩, g, e3, hB.block.1⟩
  · have e : oneBox t0 B K I t = .any := if_neg h3
    show (oneBox t0 B K I t).holds _ _
    rw [e]
    trivial
theorem box_kept {w w' : World} {v : Value} {k B g t : Nat} {q : Rat} {xs : List Value} (h : (Ke.box k q).holds w v) (hb : BoxV w B g t xs) (hx : NoLimb xs) (hg : w.grownBy w' (some g)) (hne : v ≠ .pointer (some ⟨g, 0, none⟩)) : (Ke.box k q).holds w' v := Kd.kept (κ := .boxC k q) h hb hx hg hne

def m8K (s1 s2 : Value) (n1 n2 kf kg α β B : Nat) (f g : Nat → Rat) : Tmp → Ke := fun t => ([.lsa s1 n1 kf f, .lsa s2 n2 kg g, .any, .any, .any, .any, .con (.int .i64 α), .con (.int .i64 β), .new B, .any, .any, .any, .any, .any, .any, .any, .any, .any, .any, .any, .any, .any, .any, .any, .any, .any, .any, .any, .any, .lsa s1 n1 kf f, .con (.int .i64 α), .elA kf (f α), .ra kf (f α), .lsa s2 n2 kg g, .con (.int .i64 β), .elA kg (g β), .ra kg (g β), .ratC (f α * g β)] : List Ke).getD t .any
def m13K (g9 k x K B : Nat) (row : Nat → Nat) (p : Rat) : Tmp → Ke := fun t => ([.any, .any, .any, .any, .any, .any, .any, .any, .box K p, .arr g9 row, .con (.int .i64 k), .new B, .any, .any, .any, .any, .any, .any, .any, .any, .any, .any, .any, .any, .any, .any, .any, .any, .any, .any, .any, .any, .any, .any, .any, .any, .any, .any, .any, .any, .any, .any, .any, .any, .any, .any, .any, .any, .any, .any, .any, .ra K p, .con (.int .i64 k), .cel g9 k x, .con (.int .i64 (x : Int)), .rc 3 (quo (x : Int) 1), .ratC (p * quo (x : Int) 1)] : List Ke).getD t .any
def m14K (gP N k K KT : Nat) (F : Nat → Rat) (t : Rat) : Tmp → Ke := fun s => ([.any, .any, .any, .any, .any, .lsa (.slice (some ⟨gP, 0, none⟩) N N) N K F, .any, .any, .any, .any, .con (.int .i64 k), .box KT t, .any, .any, .any, .any, .any, .any, .any, .any, .any, .any, .any, .any, .any, .any, .any, .any, .any, .any, .any, .any, .any, .any, .any, .any, .any, .any, .any, .any, .any, .any, .any, .any, .any, .any, .any, .any, .any, .any, .any, .any, .any, .any, .any, .any, .any, .lsa (.slice (some ⟨gP, 0, none⟩) N N) N K F, .con (.int .i64 k), .lsa (.slice (some ⟨gP, 0, none⟩) N N) N K F, .con (.int .i64 k), .elA K (F k), .ra K (F k), .rc KT t, .ratC (F k + t), .con (.pointer (some ⟨gP, 0 + k * 3, none⟩))] : List Ke).getD s .any

set_option maxRecDepth 100000 in
set_option maxHeartbeats 16000000 in
theorem mulInts_any (a1 a2 : Option Addr) (n1 n2 c1 c2 kf kg N : Nat) (f g : Nat → Rat) (w : World) (hn1 : 1 ≤ n1) (hn2 : 1 ≤ n2) (hn : n1 + n2 ≤ 34) (hN : N + 1 = n1 + n2) (hl1 : Lst w (.slice a1 n1 c1) n1 f) (hl2 : Lst w (.slice a2 n2 c2) n2 g)
    (hf : ∀ i, i < n1 → Wh 1 (pw kf) (f i)) (hg : ∀ i, i < n2 → Wh 1 (pw kg) (g i)) (hk : kf + kg ≤ 5000) :
    Calls Try.prog 72 #[.slice a1 n1 c1, .slice a2 n2 c2] w (fun e w' => e = .returned (.slice (some ⟨w.heap.size, 0, none⟩) N N) ∧ LstA w' (.slice (some ⟨w.heap.size, 0, none⟩) N N) N (kf + kg + 5) (mulC n1 n2 f g) ∧ Below w.heap.size w w') := by
  have hNi : (n1 : Int) + (n2 : Int) - 1 = (N : Int) := by omega
  have hNb : N ≤ 33 := by omega
  have hb0 := below_alloc1 w (.cells (madeCells #[.bool false, .slice none 0 0, .slice none 0 0] (N * 3)) 24)
  have hM0 := (LstM.new w w.heap.size N (kf + kg + 5) (Nat.le_refl _)).congr (F' := partM n2 f g 0 0) fun j _ => (partM_zero n2 f g j).symm
  have hs1 : ∀ i, i < n1 → Sz (f i) (kf + 1) := fun i hi => sz_of_wh1 (hf i hi)
  have hs2 : ∀ i, i < n2 → Sz (g i) (kg + 1) := fun i hi => sz_of_wh1 (hg i hi)
  have hp : ∀ i j, i < n1 → j < n2 → Sz (f i * g j) (kf + kg + 3) := fun i j hi hj => sz_le (sz_mul (hs1 i hi) (hs2 j hj)) (by omega)
  have ht : ∀ i j k, i < n1 → j < n2 → Sz (tPQ f g i j k) (kf + kg + 3) := fun i j k hi hj => sz_of_wh1 (wh_tPQ (hf i hi) (hg j hj) (by omega))
  have hi : ∀ i j k l, i < n1 → j < n2 → Sz (innM n2 f g i j k l) (kf + kg + 5) := fun i j k l hi hj => sz_innM hf hg hn (by omega) hi hj
  have HL := Lib.hid (And.intro (hl1.toA hs1) (And.intro (hl2.toA hs2) (And.intro hp (And.intro ht hi))))
  have H0 := Lib.hid (And.intro hM0 hb0)
  clear hl1 hl2 hf hg hb0 hM0 hs1 hs2 hp ht hi
  go_enter Try.func72, Try.ntmps72
  go_wp2_with fail
  rw [run_make32 N w (by omega)]
  go_wp2_with fail
  go_loopw [21] (fun x wr => ∃ α : Nat, α ≤ n1 ∧ x = .int .i64 α ∧ LstM w.heap.size w.heap.size N (kf + kg + 5) (partM n2 f g α 0) wr ∧ Below w.heap.size w wr) (fun x _ => n1 - (intOf x).toNat)
  case atStart => exact ⟨0, Nat.zero_le _, rfl, H0.out⟩
  case round =>
    obtain ⟨α, hα, rfl, hM, hbel⟩ := hrel
    by_cases hlta : α < n1
    · have hai : (α : Int) < (n1 : Int) := by omega
      have HR := Lib.hid (And.intro hM hbel)
      clear hM hbel
      go_wp2_with fail
      go_loopw [26] (fun x wr => ∃ β : Nat, β ≤ n2 ∧ x = .int .i64 β ∧ LstM w.heap.size w.heap.size N (kf + kg + 5) (partM n2 f g α β) wr ∧ Below w.heap.size w wr) (fun x _ => n2 - (intOf x).toNat)
      case atStart => exact ⟨0, Nat.zero_le _, rfl, HR.out⟩
      case round =>
        obtain ⟨wA, hwA⟩ : ∃ x, x = wr := ⟨_, rfl⟩
        subst hwA
        obtain ⟨β, hβ, rfl, hM, hbel⟩ := hrel
        by_cases hltb : β < n2
        · have hbi : (β : Int) < (n2 : Int) := by omega
          have hszA : w.heap.size + 1 ≤ wA.heap.size := by obtain ⟨xs, l1, _⟩ := hM; exact l1.block.2
          have H2 := Lib.hid (And.intro (HL.out.1.below hbel) (And.intro (HL.out.2.1.below hbel) (And.intro hM (And.intro hbel hszA))))
          clear hM hbel hszA
          go_wp2_with fail
          refine region_flow_store (Fe (m8K (.slice a1 n1 c1) (.slice a2 n2 c2) n1 n2 (kf + 1) (kg + 1) α β wA.heap.size f g)) (Fe (oneBox 8 wA.heap.size (kf + kg + 3) (f α * g β))) (by rfl) (Fe.mono _) (Fe.mono _) 69 10 [] (by rfl) (by kernel_rfl) (by kernel_rfl) (by kernel_rfl) [0, 1, 6, 7] (by kernel_rfl) ?g08 (Fe.draw _) ?gs8 (fun i hi => by cases hi) ?gt8 ?gf8
          case g08 =>
            intro t ht
            simp only [List.mem_cons, List.not_mem_nil, or_false] at ht
            rcases ht with rfl | rfl | rfl | rfl
            · exact ⟨rfl, H2.out.1⟩
            · exact ⟨rfl, H2.out.2.1⟩
            · rfl
            · rfl
          case gs8 =>
            exact ⟨flowB_of (e_move rfl), flowB_of (e_move rfl), flowB_of (e_indexA rfl rfl rfl hlta), flowB_of (e_loadEA rfl rfl), flowB_of (e_move rfl), flowB_of (e_move rfl), flowB_of (e_indexA rfl rfl rfl hltb), flowB_of (e_loadEA rfl rfl), flowB_of (e_mulAA rfl rfl rfl (by omega)), e_new rfl, fun o ho => by cases ho⟩
          case gt8 =>
            intro a3 w3 hb3 hsz3 hdf3 hfacts hout
            obtain ⟨g8, e3, hB3⟩ : ∃ g, a3.tmps.getD 8 undef = .pointer (some ⟨g, 0, none⟩) ∧ BoxV w3 _ g 24 [.bool false, .slice none 0 0, .slice none 0 0] := hfacts 9 8 (by decide) rfl
            have f37 : RatC w3 (a3.tmps.getD 37 undef) (f α * g β) := hfacts 8 37 (by decide) rfl
            refine e_store (t := 8) (u := 37) rfl e3 hB3 f37 fun an' ln' cn' ad' ld' cd' hR => ?_
            exact ⟨rfl, below_set3 hb3 hB3.block.1 _ _ _, box_store hB3 (HL.out.2.2.1 α β hlta hltb) hR a3 e3⟩
          intro a3 w3 hb3 hsz3 hdf3 hfacts hout
          obtain ⟨hbx8, g8, f8, hg8⟩ : (Ke.bxn wA.heap.size (kf + kg + 3) (f α * g β)).holds w3 (a3.tmps.getD 8 undef) := hfacts 9 8 rfl
          rw [f8] at hbx8
          have hne8 : g8 ≠ w.heap.size := by have := H2.out.2.2.2.2; omega
          have H3 := Lib.hid (And.intro (H2.out.2.2.1.below hb3) (And.intro hbx8 (And.intro (below_next' H2.out.2.2.2.1 hb3) hne8)))
          have hszn : a3.tmps.size = 69 := hsz3
          have hdfn : a3.defers = [] := hdf3
          have e0 : a3.tmps.getD 0 undef = .slice a1 n1 c1 := hout 0 (free_of (by kernel_rfl))
          have e1 : a3.tmps.getD 1 undef = .slice a2 n2 c2 := hout 1 (free_of (by kernel_rfl))
          have e2 : a3.tmps.getD 2 undef = undef := hout 2 (free_of (by kernel_rfl))
          have e3 : a3.tmps.getD 3 undef = undef := hout 3 (free_of (by kernel_rfl))
          have e4 : a3.tmps.getD 4 undef = .slice none 0 0 := hout 4 (free_of (by kernel_rfl))
          have e5 : a3.tmps.getD 5 undef = .slice (some ⟨w.heap.size, 0, none⟩) N N := hout 5 (free_of (by kernel_rfl))
          have e12 : a3.tmps.getD 12 undef = .slice a1 n1 c1 := hout 12 (free_of (by kernel_rfl))
          have e13 : a3.tmps.getD 13 undef = .int .i64 n1 := hout 13 (free_of (by kernel_rfl))
          have e14 : a3.tmps.getD 14 undef = .slice a2 n2 c2 := hout 14 (free_of (by kernel_rfl))
          have e15 : a3.tmps.getD 15 undef = .int .i64 n2 := hout 15 (free_of (by kernel_rfl))
          have e16 : a3.tmps.getD 16 undef = .int .i64 ((n1 : Int) + (n2 : Int)) := hout 16 (free_of (by kernel_rfl))
          have e17 : a3.tmps.getD 17 undef = .int .i64 N := hout 17 (free_of (by kernel_rfl))
          have e18 : a3.tmps.getD 18 undef = .slice (some ⟨w.heap.size, 0, none⟩) N N := hout 18 (free_of (by kernel_rfl))
          have e19 : a3.tmps.getD 19 undef = .slice a1 n1 c1 := hout 19 (free_of (by kernel_rfl))
          have e20 : a3.tmps.getD 20 undef = .int .i64 n1 := hout 20 (free_of (by kernel_rfl))
          have e21 : a3.tmps.getD 21 undef = .int .i64 α := hout 21 (free_of (by kernel_rfl))
          have e22 : a3.tmps.getD 22 undef = .bool true := hout 22 (free_of (by kernel_rfl))
          have e23 : a3.tmps.getD 23 undef = .int .i64 α := hout 23 (free_of (by kernel_rfl))
          have e6 : a3.tmps.getD 6 undef = .int .i64 α := hout 6 (free_of (by kernel_rfl))
          have e24 : a3.tmps.getD 24 undef = .slice a2 n2 c2 := hout 24 (free_of (by kernel_rfl))
          have e25 : a3.tmps.getD 25 undef = .int .i64 n2 := hout 25 (free_of (by kernel_rfl))
          have e67 : a3.tmps.getD 67 undef = u67 := hout 67 (free_of (by kernel_rfl))
          have e68 : a3.tmps.getD 68 undef = undef := hout 68 (free_of (by kernel_rfl))
          have e26 : a3.tmps.getD 26 undef = .int .i64 β := hout 26 (free_of (by kernel_rfl))
          have e27 : a3.tmps.getD 27 undef = .bool true := hout 27 (free_of (by kernel_rfl))
          have e28 : a3.tmps.getD 28 undef = .int .i64 β := hout 28 (free_of (by kernel_rfl))
          have e7 : a3.tmps.getD 7 undef = .int .i64 β := hout 7 (free_of (by kernel_rfl))
          obtain ⟨va, hu⟩ : ∃ u : Nat → Value, ∀ t, a3.tmps.getD t undef = u t := ⟨_, fun _ => rfl⟩
          have ha := act_eq a3 69 hszn hdfn
          simp only [hu] at ha e0 e1 e2 e3 e4 e5 e12 e13 e14 e15 e16 e17 e18 e19 e20 e21 e22 e23 e6 e24 e25 e67 e68 e26 e27 e28 e7 f8
          have ha' : a3 = ⟨#[va 0, va 1, va 2, va 3, va 4, va 5, va 6, va 7, va 8, va 9, va 10, va 11, va 12, va 13, va 14, va 15, va 16, va 17, va 18, va 19, va 20, va 21, va 22, va 23, va 24, va 25, va 26, va 27, va 28, va 29, va 30, va 31, va 32, va 33, va 34, va 35, va 36, va 37, va 38, va 39, va 40, va 41, va 42, va 43, va 44, va 45, va 46, va 47, va 48, va 49, va 50, va 51, va 52, va 53, va 54, va 55, va 56, va 57, va 58, va 59, va 60, va 61, va 62, va 63, va 64, va 65, va 66, va 67, va 68], []⟩ := ha
          rw [e0, e1, e2, e3, e4, e5, e12, e13, e14, e15, e16, e17, e18, e19, e20, e21, e22, e23, e6, e24, e25, e67, e68, e26, e27, e28, e7, f8] at ha'
          clear ha hu e0 e1 e2 e3 e4 e5 e12 e13 e14 e15 e16 e17 e18 e19 e20 e21 e22 e23 e6 e24 e25 e67 e68 e26 e27 e28 e7 f8 hszn hdfn hfacts hout hsz3 hdf3 hb3 hbx8 hne8 hg8
          subst ha'
          go_wp2_with fail
          refine (productRow_all α β (by omega) _).mono ?_
          rintro e w4 ⟨rfl, hb4⟩
          obtain ⟨row, hrow⟩ : ∃ row, prow α β (α + β + 1) = row := ⟨_, rfl⟩
          rw [hrow]
          have hT := RowB.new w4 w4.heap.size (Nat.le_refl _) z0
          have hT2 := hT.setRow row
          have hba := below_alloc1 w4 (.cells (rowA z0) 74)
          have hb34 := below_next' hb4 hba
          have hbw5 : Below w3.heap.size w3 ((w4.alloc (.cells (rowA z0) 74)).setRow w4.heap.size (rowA row)) := hb34.grown hT2.2 hb34.size (fun k hk => by cases hk; exact hb4.size)
          have hh := hT.heap
          obtain ⟨W5, hW5⟩ : ∃ W2, (w4.alloc (.cells #[.int .i64 0, .int .i64 0, .int .i64 0, .int .i64 0, .int .i64 0, .int .i64 0, .int .i64 0, .int .i64 0, .int .i64 0, .int .i64 0, .int .i64 0, .int .i64 0, .int .i64 0, .int .i64 0, .int .i64 0, .int .i64 0, .int .i64 0, .int .i64 0, .int .i64 0, .int .i64 0, .int .i64 0, .int .i64 0, .int .i64 0, .int .i64 0, .int .i64 0, .int .i64 0, .int .i64 0, .int .i64 0, .int .i64 0, .int .i64 0, .int .i64 0, .int .i64 0, .int .i64 0] 74)).setRow w4.heap.size (rowA row) = W2 := ⟨_, rfl⟩
          have hT5 : RowB W5 w4.heap.size w4.heap.size row := by rw [← hW5]; exact hT2.1
          have hb5 : Below w3.heap.size w3 W5 := by rw [← hW5]; exact hbw5
          have hne9 : w4.heap.size ≠ w.heap.size := by
            have h1 := hb4.size
            have h2 : w.heap.size < w3.heap.size := by obtain ⟨xs, l1, _⟩ := H3.out.1; exact l1.block.2
            omega
          have hrk : ∀ k, f α * g β * quo ((row k : Nat) : Int) 1 = tPQ f g α β k := fun k => by rw [← hrow]; exact tPQ_row f g α β k
          have hrs : ∀ k, k ≤ 32 → row k ≤ 1000000000000000000 := fun k hk => by rw [← hrow]; exact prow_small2 (by omega) hk
          have HS := Lib.hid (And.intro (H3.out.1.below hb5) (And.intro ((Ke.box _ _).below hb5 H3.out.2.1) (And.intro hT5 (And.intro (below_next' H3.out.2.2.1 hb5) (And.intro H3.out.2.2.2 (And.intro hne9 (And.intro hrk (And.intro hrs hW5))))))))
          clear hT hT2 hba hb34 hbw5 hb4 hT5 hb5 hne9 hrk hrs hW5 hrow
          go_wp2_with (first
            | (refine wpList_store_row rfl 74 _ _ rfl w4.heap.size (rowA row) rfl rfl 74 (rowA z0) hh (by rw [rowA_size]; exact Try.size74) (by rw [rowA_size, rowA_size]) (rowA_one _) ?_; refine Hid.out ?_))
          refine Lib.hid ?_
          rw [HS.out.2.2.2.2.2.2.2.2]
          clear hh
          by_cases hab : α < β
          · have hmi : α < β := hab
            clear hab
            go_wp2_with fail
            go_loopw [10] (fun x wr => ∃ k : Nat, α ≤ k ∧ β ≤ k ∧ k ≤ α + β + 1 ∧ x = .int .i64 k ∧ LstM w.heap.size w.heap.size N (kf + kg + 5) (innM n2 f g α β k) wr ∧ (Ke.box (kf + kg + 3) (f α * g β)).holds wr (.pointer (some ⟨g8, 0, none⟩)) ∧ RowB wr w4.heap.size w4.heap.size row ∧ Below w.heap.size w wr) (fun x _ => α + β + 1 - (intOf x).toNat)
            case atStart => exact ⟨β, by omega, by omega, by omega, rfl, HS.out.1.congr fun j _ => innM_start (by omega) j, HS.out.2.1, HS.out.2.2.1, HS.out.2.2.2.1⟩
            case round =>
              obtain ⟨wB, hwB⟩ : ∃ x, x = wr := ⟨_, rfl⟩
              subst hwB
              obtain ⟨k, hka, hkb, hk1, rfl, hM, hX, hW, hbel⟩ := hrel
              by_cases hltk : k ≤ α + β
              · have hki : (k : Int) ≤ (α : Int) + (β : Int) := by omega
                have H6 := Lib.hid (And.intro hM (And.intro hX (And.intro hW hbel)))
                clear hM hX hW hbel
                obtain ⟨x, hx⟩ : ∃ x, row k = x := ⟨_, rfl⟩
                have hxs : x ≤ 1000000000000000000 := by rw [← hx]; exact HS.out.2.2.2.2.2.2.2.1 k (by omega)
                have hxt : f α * g β * quo (x : Int) 1 = tPQ f g α β k := by rw [← hx]; exact HS.out.2.2.2.2.2.2.1 k
                have HX := Lib.hid (And.intro hx hxt)
                clear hx hxt
                go_wp2_with fail
                refine region_flow_store (Fe (m13K w4.heap.size k x (kf + kg + 3) wB.heap.size row (f α * g β))) (Fe (oneBox 11 wB.heap.size (kf + kg + 3) (tPQ f g α β k))) (by rfl) (Fe.mono _) (Fe.mono _) 69 7 [] (by rfl) (by kernel_rfl) (by kernel_rfl) (by kernel_rfl) [8, 9, 10] (by kernel_rfl) ?g013 (Fe.draw _) ?gs13 (fun i hi => by cases hi) ?gt13 ?gf13
                case g013 =>
                  intro t ht
                  simp only [List.mem_cons, List.not_mem_nil, or_false] at ht
                  rcases ht with rfl | rfl | rfl
                  · exact H6.out.2.1
                  · exact ⟨rfl, fun j hj => H6.out.2.2.1.cell hj⟩
                  · rfl
                case gs13 =>
                  exact ⟨flowB_of (e_loadC rfl rfl), flowB_of (e_move rfl), flowB_of (e_idxA rfl rfl rfl HX.out.1 (by omega)), flowB_of (e_load2 rfl rfl), flowB_of (e_from57 (n := (x : Int)) rfl rfl (by omega) (by omega) (sz_int (by omega) (by omega))), flowB_of (e_mul73 rfl rfl rfl (by omega)), e_new rfl, fun o ho => by cases ho⟩
                case gt13 =>
                  intro a3 w6 hb6 hsz6 hdf6 hfacts hout
                  obtain ⟨g11, e3, hB6⟩ : ∃ g, a3.tmps.getD 11 undef = .pointer (some ⟨g, 0, none⟩) ∧ BoxV w6 _ g 24 [.bool false, .slice none 0 0, .slice none 0 0] := hfacts 6 11 (by decide) rfl
                  have f56 : RatC w6 (a3.tmps.getD 56 undef) (f α * g β * quo (x : Int) 1) := hfacts 5 56 (by decide) rfl
                  rw [HX.out.2] at f56
                  refine e_store (t := 11) (u := 56) rfl e3 hB6 f56 fun an' ln' cn' ad' ld' cd' hR => ?_
                  exact ⟨rfl, below_set3 hb6 hB6.block.1 _ _ _, box_store hB6 (HL.out.2.2.2.1 α β k hlta hltb) hR a3 e3⟩
                intro a3 w6 hb6 hsz6 hdf6 hfacts hout
                obtain ⟨hbx11, g11, f11, hg11⟩ : (Ke.bxn wB.heap.size (kf + kg + 3) (tPQ f g α β k)).holds w6 (a3.tmps.getD 11 undef) := hfacts 6 11 rfl
                rw [f11] at hbx11
                have H7 := Lib.hid (And.intro (H6.out.1.below hb6) (And.intro ((Ke.box _ _).below hb6 H6.out.2.1) (And.intro (H6.out.2.2.1.below hb6) (And.intro (below_next' H6.out.2.2.2 hb6) hbx11))))
                have hszn : a3.tmps.size = 69 := hsz6
                have hdfn : a3.defers = [] := hdf6
                have e0 : a3.tmps.getD 0 undef = .slice a1 n1 c1 := hout 0 (free_of (by kernel_rfl))
                have e1 : a3.tmps.getD 1 undef = .slice a2 n2 c2 := hout 1 (free_of (by kernel_rfl))
                have e2 : a3.tmps.getD 2 undef = undef := hout 2 (free_of (by kernel_rfl))
                have e3 : a3.tmps.getD 3 undef = undef := hout 3 (free_of (by kernel_rfl))
                have e4 : a3.tmps.getD 4 undef = .slice none 0 0 := hout 4 (free_of (by kernel_rfl))
                have e5 : a3.tmps.getD 5 undef = .slice (some ⟨w.heap.size, 0, none⟩) N N := hout 5 (free_of (by kernel_rfl))
                have e12 : a3.tmps.getD 12 undef = .slice a1 n1 c1 := hout 12 (free_of (by kernel_rfl))
                have e13 : a3.tmps.getD 13 undef = .int .i64 n1 := hout 13 (free_of (by kernel_rfl))
                have e14 : a3.tmps.getD 14 undef = .slice a2 n2 c2 := hout 14 (free_of (by kernel_rfl))
                have e15 : a3.tmps.getD 15 undef = .int .i64 n2 := hout 15 (free_of (by kernel_rfl))
                have e16 : a3.tmps.getD 16 undef = .int .i64 ((n1 : Int) + (n2 : Int)) := hout 16 (free_of (by kernel_rfl))
                have e17 : a3.tmps.getD 17 undef = .int .i64 N := hout 17 (free_of (by kernel_rfl))
                have e18 : a3.tmps.getD 18 undef = .slice (some ⟨w.heap.size, 0, none⟩) N N := hout 18 (free_of (by kernel_rfl))
                have e19 : a3.tmps.getD 19 undef = .slice a1 n1 c1 := hout 19 (free_of (by kernel_rfl))
                have e20 : a3.tmps.getD 20 undef = .int .i64 n1 := hout 20 (free_of (by kernel_rfl))
                have e21 : a3.tmps.getD 21 undef = .int .i64 α := hout 21 (free_of (by kernel_rfl))
                have e22 : a3.tmps.getD 22 undef = .bool true := hout 22 (free_of (by kernel_rfl))
                have e23 : a3.tmps.getD 23 undef = .int .i64 α := hout 23 (free_of (by kernel_rfl))
                have e6 : a3.tmps.getD 6 undef = .int .i64 α := hout 6 (free_of (by kernel_rfl))
                have e24 : a3.tmps.getD 24 undef = .slice a2 n2 c2 := hout 24 (free_of (by kernel_rfl))
                have e25 : a3.tmps.getD 25 undef = .int .i64 n2 := hout 25 (free_of (by kernel_rfl))
                have e67 : a3.tmps.getD 67 undef = u67 := hout 67 (free_of (by kernel_rfl))
                have e68 : a3.tmps.getD 68 undef = undef := hout 68 (free_of (by kernel_rfl))
                have e26 : a3.tmps.getD 26 undef = .int .i64 β := hout 26 (free_of (by kernel_rfl))
                have e27 : a3.tmps.getD 27 undef = .bool true := hout 27 (free_of (by kernel_rfl))
                have e28 : a3.tmps.getD 28 undef = .int .i64 β := hout 28 (free_of (by kernel_rfl))
                have e7 : a3.tmps.getD 7 undef = .int .i64 β := hout 7 (free_of (by kernel_rfl))
                have e29 : a3.tmps.getD 29 undef = va 29 := hout 29 (free_of (by kernel_rfl))
                have e30 : a3.tmps.getD 30 undef = va 30 := hout 30 (free_of (by kernel_rfl))
                have e31 : a3.tmps.getD 31 undef = va 31 := hout 31 (free_of (by kernel_rfl))
                have e32 : a3.tmps.getD 32 undef = va 32 := hout 32 (free_of (by kernel_rfl))
                have e33 : a3.tmps.getD 33 undef = va 33 := hout 33 (free_of (by kernel_rfl))
                have e34 : a3.tmps.getD 34 undef = va 34 := hout 34 (free_of (by kernel_rfl))
                have e35 : a3.tmps.getD 35 undef = va 35 := hout 35 (free_of (by kernel_rfl))
                have e36 : a3.tmps.getD 36 undef = va 36 := hout 36 (free_of (by kernel_rfl))
                have e37 : a3.tmps.getD 37 undef = va 37 := hout 37 (free_of (by kernel_rfl))
                have e66 : a3.tmps.getD 66 undef = va 66 := hout 66 (free_of (by kernel_rfl))
                have e8 : a3.tmps.getD 8 undef = .pointer (some ⟨g8, 0, none⟩) := hout 8 (free_of (by kernel_rfl))
                have e9 : a3.tmps.getD 9 undef = .pointer (some ⟨w4.heap.size, 0, none⟩) := hout 9 (free_of (by kernel_rfl))
                have e38 : a3.tmps.getD 38 undef = .int .i64 α := hout 38 (free_of (by kernel_rfl))
                have e39 : a3.tmps.getD 39 undef = .int .i64 β := hout 39 (free_of (by kernel_rfl))
                have e40 : a3.tmps.getD 40 undef = .agg (rowA row) := hout 40 (free_of (by kernel_rfl))
                have e41 : a3.tmps.getD 41 undef = .int .i64 α := hout 41 (free_of (by kernel_rfl))
                have e42 : a3.tmps.getD 42 undef = .int .i64 β := hout 42 (free_of (by kernel_rfl))
                have e43 : a3.tmps.getD 43 undef = .int .i64 β := hout 43 (free_of (by kernel_rfl))
                have e10 : a3.tmps.getD 10 undef = .int .i64 k := hout 10 (free_of (by kernel_rfl))
                obtain ⟨vb, hu⟩ : ∃ u : Nat → Value, ∀ t, a3.tmps.getD t undef = u t := ⟨_, fun _ => rfl⟩
                have ha := act_eq a3 69 hszn hdfn
                simp only [hu] at ha e0 e1 e2 e3 e4 e5 e12 e13 e14 e15 e16 e17 e18 e19 e20 e21 e22 e23 e6 e24 e25 e67 e68 e26 e27 e28 e7 e29 e30 e31 e32 e33 e34 e35 e36 e37 e66 e8 e9 e38 e39 e40 e41 e42 e43 e10 f11
                have ha' : a3 = ⟨#[vb 0, vb 1, vb 2, vb 3, vb 4, vb 5, vb 6, vb 7, vb 8, vb 9, vb 10, vb 11, vb 12, vb 13, vb 14, vb 15, vb 16, vb 17, vb 18, vb 19, vb 20, vb 21, vb 22, vb 23, vb 24, vb 25, vb 26, vb 27, vb 28, vb 29, vb 30, vb 31, vb 32, vb 33, vb 34, vb 35, vb 36, vb 37, vb 38, vb 39, vb 40, vb 41, vb 42, vb 43, vb 44, vb 45, vb 46, vb 47, vb 48, vb 49, vb 50, vb 51, vb 52, vb 53, vb 54, vb 55, vb 56, vb 57, vb 58, vb 59, vb 60, vb 61, vb 62, vb 63, vb 64, vb 65, vb 66, vb 67, vb 68], []⟩ := ha
                rw [e0, e1, e2, e3, e4, e5, e12, e13, e14, e15, e16, e17, e18, e19, e20, e21, e22, e23, e6, e24, e25, e67, e68, e26, e27, e28, e7, e29, e30, e31, e32, e33, e34, e35, e36, e37, e66, e8, e9, e38, e39, e40, e41, e42, e43, e10, f11] at ha'
                clear ha hu e0 e1 e2 e3 e4 e5 e12 e13 e14 e15 e16 e17 e18 e19 e20 e21 e22 e23 e6 e24 e25 e67 e68 e26 e27 e28 e7 e29 e30 e31 e32 e33 e34 e35 e36 e37 e66 e8 e9 e38 e39 e40 e41 e42 e43 e10 f11 hszn hdfn hfacts hout hsz6 hdf6 hb6 hbx11 hg11
                subst ha'
                go_wp2_with fail
                refine region_flow_tail (Fe (m14K w.heap.size N k (kf + kg + 5) (kf + kg + 3) (innM n2 f g α β k) (tPQ f g α β k))) (by rfl) (Fe.mono _) 69 9 [] (by rfl) (by kernel_rfl) (by kernel_rfl) (by kernel_rfl) (by kernel_rfl) (fun t ht => by cases ht) [5, 10, 11] (by kernel_rfl) ?h013 (Fe.draw _) ?hs13 ?hf13
                case h013 =>
                  intro t ht
                  simp only [List.mem_cons, List.not_mem_nil, or_false] at ht
                  rcases ht with rfl | rfl | rfl
                  · exact ⟨rfl, H7.out.1.toA (by omega)⟩
                  · rfl
                  · exact H7.out.2.2.2.2
                case hs13 =>
                  exact ⟨flowN_of (e_move rfl) (by decide), flowN_of (e_move rfl) (by decide), flowN_of (e_move rfl) (by decide), flowN_of (e_move rfl) (by decide), flowN_of (e_indexA rfl rfl rfl (by omega)) (by decide), flowN_of (e_loadEA rfl rfl) (by decide), flowN_of (e_loadR rfl rfl) (by decide), flowN_of (e_add70 rfl rfl rfl (by omega)) (by decide), flowN_of (e_idxM rfl rfl rfl (by omega)) (by decide), trivial⟩
                intro a3 w7 hb7 hsz7 hdf7 hfacts hout _
                have f64 : RatC w7 (a3.tmps.getD 64 undef) (innM n2 f g α β k k + tPQ f g α β k) := hfacts 7 64 (by decide) rfl
                have f65 : a3.tmps.getD 65 undef = .pointer (some ⟨w.heap.size, 0 + k * 3, none⟩) := hfacts 8 65 (by decide) rfl
                rw [innM_at] at f64
                have hszn : a3.tmps.size = 69 := hsz7
                have hdfn : a3.defers = [] := hdf7
                change runFrom _ _ _ 1 9 a3 w7
                simp only [runFrom]
                refine e_storeM (t := 65) (u := 64) (F' := innM n2 f g α β (k + 1)) rfl f65 (H7.out.1.below hb7) (by omega) f64 (HL.out.2.2.2.2 α β (k + 1) k hlta hltb) (fun j hj => innM_other hj) fun v0 v1 v2 hM8 => ?_
                obtain ⟨xs, l1, l2, l3, _⟩ := H7.out.1.below hb7
                have hgr := grown_setL w7 w.heap.size (k * 3) v0 v1 v2
                have hX8 := box_kept ((Ke.box _ _).below hb7 H7.out.2.1) l1 l3 hgr (by simp; exact HS.out.2.2.2.2.1)
                have hW8 := (H7.out.2.2.1.below hb7).kept hgr (by simp; exact HS.out.2.2.2.2.2.1)
                have HN := Lib.hid (And.intro hM8 (And.intro hX8 (And.intro hW8 (below_setL (below_next' H7.out.2.2.2.1 hb7) (o := k * 3) (Nat.le_refl _) v0 v1 v2))))
                generalize (((w7.setCell ⟨w.heap.size, k * 3, none⟩ v0).setCell ⟨w.heap.size, k * 3 + 1, none⟩ v1).setCell ⟨w.heap.size, k * 3 + 2, none⟩ v2) = w8 at HN ⊢
                have e0 : a3.tmps.getD 0 undef = .slice a1 n1 c1 := hout 0 (free_of (by kernel_rfl))
                have e1 : a3.tmps.getD 1 undef = .slice a2 n2 c2 := hout 1 (free_of (by kernel_rfl))
                have e2 : a3.tmps.getD 2 undef = undef := hout 2 (free_of (by kernel_rfl))
                have e3 : a3.tmps.getD 3 undef = undef := hout 3 (free_of (by kernel_rfl))
                have e4 : a3.tmps.getD 4 undef = .slice none 0 0 := hout 4 (free_of (by kernel_rfl))
                have e5 : a3.tmps.getD 5 undef = .slice (some ⟨w.heap.size, 0, none⟩) N N := hout 5 (free_of (by kernel_rfl))
                have e12 : a3.tmps.getD 12 undef = .slice a1 n1 c1 := hout 12 (free_of (by kernel_rfl))
                have e13 : a3.tmps.getD 13 undef = .int .i64 n1 := hout 13 (free_of (by kernel_rfl))
                have e14 : a3.tmps.getD 14 undef = .slice a2 n2 c2 := hout 14 (free_of (by kernel_rfl))
                have e15 : a3.tmps.getD 15 undef = .int .i64 n2 := hout 15 (free_of (by kernel_rfl))
                have e16 : a3.tmps.getD 16 undef = .int .i64 ((n1 : Int) + (n2 : Int)) := hout 16 (free_of (by kernel_rfl))
                have e17 : a3.tmps.getD 17 undef = .int .i64 N := hout 17 (free_of (by kernel_rfl))
                have e18 : a3.tmps.getD 18 undef = .slice (some ⟨w.heap.size, 0, none⟩) N N := hout 18 (free_of (by kernel_rfl))
                have e19 : a3.tmps.getD 19 undef = .slice a1 n1 c1 := hout 19 (free_of (by kernel_rfl))
                have e20 : a3.tmps.getD 20 undef = .int .i64 n1 := hout 20 (free_of (by kernel_rfl))
                have e21 : a3.tmps.getD 21 undef = .int .i64 α := hout 21 (free_of (by kernel_rfl))
                have e22 : a3.tmps.getD 22 undef = .bool true := hout 22 (free_of (by kernel_rfl))
                have e23 : a3.tmps.getD 23 undef = .int .i64 α := hout 23 (free_of (by kernel_rfl))
                have e6 : a3.tmps.getD 6 undef = .int .i64 α := hout 6 (free_of (by kernel_rfl))
                have e24 : a3.tmps.getD 24 undef = .slice a2 n2 c2 := hout 24 (free_of (by kernel_rfl))
                have e25 : a3.tmps.getD 25 undef = .int .i64 n2 := hout 25 (free_of (by kernel_rfl))
                have e67 : a3.tmps.getD 67 undef = u67 := hout 67 (free_of (by kernel_rfl))
                have e68 : a3.tmps.getD 68 undef = undef := hout 68 (free_of (by kernel_rfl))
                have e26 : a3.tmps.getD 26 undef = .int .i64 β := hout 26 (free_of (by kernel_rfl))
                have e27 : a3.tmps.getD 27 undef = .bool true := hout 27 (free_of (by kernel_rfl))
                have e28 : a3.tmps.getD 28 undef = .int .i64 β := hout 28 (free_of (by kernel_rfl))
                have e7 : a3.tmps.getD 7 undef = .int .i64 β := hout 7 (free_of (by kernel_rfl))
                have e29 : a3.tmps.getD 29 undef = va 29 := hout 29 (free_of (by kernel_rfl))
                have e30 : a3.tmps.getD 30 undef = va 30 := hout 30 (free_of (by kernel_rfl))
                have e31 : a3.tmps.getD 31 undef = va 31 := hout 31 (free_of (by kernel_rfl))
                have e32 : a3.tmps.getD 32 undef = va 32 := hout 32 (free_of (by kernel_rfl))
                have e33 : a3.tmps.getD 33 undef = va 33 := hout 33 (free_of (by kernel_rfl))
                have e34 : a3.tmps.getD 34 undef = va 34 := hout 34 (free_of (by kernel_rfl))
                have e35 : a3.tmps.getD 35 undef = va 35 := hout 35 (free_of (by kernel_rfl))
                have e36 : a3.tmps.getD 36 undef = va 36 := hout 36 (free_of (by kernel_rfl))
                have e37 : a3.tmps.getD 37 undef = va 37 := hout 37 (free_of (by kernel_rfl))
                have e66 : a3.tmps.getD 66 undef = va 66 := hout 66 (free_of (by kernel_rfl))
                have e8 : a3.tmps.getD 8 undef = .pointer (some ⟨g8, 0, none⟩) := hout 8 (free_of (by kernel_rfl))
                have e9 : a3.tmps.getD 9 undef = .pointer (some ⟨w4.heap.size, 0, none⟩) := hout 9 (free_of (by kernel_rfl))
                have e38 : a3.tmps.getD 38 undef = .int .i64 α := hout 38 (free_of (by kernel_rfl))
                have e39 : a3.tmps.getD 39 undef = .int .i64 β := hout 39 (free_of (by kernel_rfl))
                have e40 : a3.tmps.getD 40 undef = .agg (rowA row) := hout 40 (free_of (by kernel_rfl))
                have e41 : a3.tmps.getD 41 undef = .int .i64 α := hout 41 (free_of (by kernel_rfl))
                have e42 : a3.tmps.getD 42 undef = .int .i64 β := hout 42 (free_of (by kernel_rfl))
                have e43 : a3.tmps.getD 43 undef = .int .i64 β := hout 43 (free_of (by kernel_rfl))
                have e10 : a3.tmps.getD 10 undef = .int .i64 k := hout 10 (free_of (by kernel_rfl))
                obtain ⟨vc, hu⟩ : ∃ u : Nat → Value, ∀ t, a3.tmps.getD t undef = u t := ⟨_, fun _ => rfl⟩
                have ha := act_eq a3 69 hszn hdfn
                simp only [hu] at ha e0 e1 e2 e3 e4 e5 e12 e13 e14 e15 e16 e17 e18 e19 e20 e21 e22 e23 e6 e24 e25 e67 e68 e26 e27 e28 e7 e29 e30 e31 e32 e33 e34 e35 e36 e37 e66 e8 e9 e38 e39 e40 e41 e42 e43 e10
                have ha' : a3 = ⟨#[vc 0, vc 1, vc 2, vc 3, vc 4, vc 5, vc 6, vc 7, vc 8, vc 9, vc 10, vc 11, vc 12, vc 13, vc 14, vc 15, vc 16, vc 17, vc 18, vc 19, vc 20, vc 21, vc 22, vc 23, vc 24, vc 25, vc 26, vc 27, vc 28, vc 29, vc 30, vc 31, vc 32, vc 33, vc 34, vc 35, vc 36, vc 37, vc 38, vc 39, vc 40, vc 41, vc 42, vc 43, vc 44, vc 45, vc 46, vc 47, vc 48, vc 49, vc 50, vc 51, vc 52, vc 53, vc 54, vc 55, vc 56, vc 57, vc 58, vc 59, vc 60, vc 61, vc 62, vc 63, vc 64, vc 65, vc 66, vc 67, vc 68], []⟩ := ha
                rw [e0, e1, e2, e3, e4, e5, e12, e13, e14, e15, e16, e17, e18, e19, e20, e21, e22, e23, e6, e24, e25, e67, e68, e26, e27, e28, e7, e29, e30, e31, e32, e33, e34, e35, e36, e37, e66, e8, e9, e38, e39, e40, e41, e42, e43, e10] at ha'
                clear ha hu e0 e1 e2 e3 e4 e5 e12 e13 e14 e15 e16 e17 e18 e19 e20 e21 e22 e23 e6 e24 e25 e67 e68 e26 e27 e28 e7 e29 e30 e31 e32 e33 e34 e35 e36 e37 e66 e8 e9 e38 e39 e40 e41 e42 e43 e10 hszn hdfn hfacts hout hsz7 hdf7 hb7 f64 f65 hM8 hX8 hW8 hgr l1 l2 l3
                subst ha'
                go_wp2
                go_roundw
                case rel => exact ⟨k + 1, by omega, by omega, by omega, by go_num, HN.out⟩
                case measure => simp [intOf]; omega
              · have hki : ¬ (k : Int) ≤ (α : Int) + (β : Int) := by omega
                have HN := Lib.hid (And.intro (hM.congr (F' := partM n2 f g α (β + 1)) fun j _ => innM_end (by omega) j) hbel)
                clear hM hX hW hbel hltk
                go_wp2
                go_roundw
                case rel => exact ⟨β + 1, by omega, by go_num, HN.out⟩
                case measure => simp [intOf]; omega
          · have hmi : ¬ α < β := hab
            clear hab
            go_wp2_with fail
            go_loopw [10] (fun x wr => ∃ k : Nat, α ≤ k ∧ β ≤ k ∧ k ≤ α + β + 1 ∧ x = .int .i64 k ∧ LstM w.heap.size w.heap.size N (kf + kg + 5) (innM n2 f g α β k) wr ∧ (Ke.box (kf + kg + 3) (f α * g β)).holds wr (.pointer (some ⟨g8, 0, none⟩)) ∧ RowB wr w4.heap.size w4.heap.size row ∧ Below w.heap.size w wr) (fun x _ => α + β + 1 - (intOf x).toNat)
            case atStart => exact ⟨α, by omega, by omega, by omega, rfl, HS.out.1.congr fun j _ => innM_start (by omega) j, HS.out.2.1, HS.out.2.2.1, HS.out.2.2.2.1⟩
            case round =>
              obtain ⟨wB, hwB⟩ : ∃ x, x = wr := ⟨_, rfl⟩
              subst hwB
              obtain ⟨k, hka, hkb, hk1, rfl, hM, hX, hW, hbel⟩ := hrel
              by_cases hltk : k ≤ α + β
              · have hki : (k : Int) ≤ (α : Int) + (β : Int) := by omega
                have H6 := Lib.hid (And.intro hM (And.intro hX (And.intro hW hbel)))
                clear hM hX hW hbel
                obtain ⟨x, hx⟩ : ∃ x, row k = x := ⟨_, rfl⟩
                have hxs : x ≤ 1000000000000000000 := by rw [← hx]; exact HS.out.2.2.2.2.2.2.2.1 k (by omega)
                have hxt : f α * g β * quo (x : Int) 1 = tPQ f g α β k := by rw [← hx]; exact HS.out.2.2.2.2.2.2.1 k
                have HX := Lib.hid (And.intro hx hxt)
                clear hx hxt
                go_wp2_with fail
                refine region_flow_store (Fe (m13K w4.heap.size k x (kf + kg + 3) wB.heap.size row (f α * g β))) (Fe (oneBox 11 wB.heap.size (kf + kg + 3) (tPQ f g α β k))) (by rfl) (Fe.mono _) (Fe.mono _) 69 7 [] (by rfl) (by kernel_rfl) (by kernel_rfl) (by kernel_rfl) [8, 9, 10] (by kernel_rfl) ?g014 (Fe.draw _) ?gs14 (fun i hi => by cases hi) ?gt14 ?gf14
                case g014 =>
                  intro t ht
                  simp only [List.mem_cons, List.not_mem_nil, or_false] at ht
                  rcases ht with rfl | rfl | rfl
                  · exact H6.out.2.1
                  · exact ⟨rfl, fun j hj => H6.out.2.2.1.cell hj⟩
                  · rfl
                case gs14 =>
                  exact ⟨flowB_of (e_loadC rfl rfl), flowB_of (e_move rfl), flowB_of (e_idxA rfl rfl rfl HX.out.1 (by omega)), flowB_of (e_load2 rfl rfl), flowB_of (e_from57 (n := (x : Int)) rfl rfl (by omega) (by omega) (sz_int (by omega) (by omega))), flowB_of (e_mul73 rfl rfl rfl (by omega)), e_new rfl, fun o ho => by cases ho⟩
                case gt14 =>
                  intro a3 w6 hb6 hsz6 hdf6 hfacts hout
                  obtain ⟨g11, e3, hB6⟩ : ∃ g, a3.tmps.getD 11 undef = .pointer (some ⟨g, 0, none⟩) ∧ BoxV w6 _ g 24 [.bool false, .slice none 0 0, .slice none 0 0] := hfacts 6 11 (by decide) rfl
                  have f56 : RatC w6 (a3.tmps.getD 56 undef) (f α * g β * quo (x : Int) 1) := hfacts 5 56 (by decide) rfl
                  rw [HX.out.2] at f56
                  refine e_store (t := 11) (u := 56) rfl e3 hB6 f56 fun an' ln' cn' ad' ld' cd' hR => ?_
                  exact ⟨rfl, below_set3 hb6 hB6.block.1 _ _ _, box_store hB6 (HL.out.2.2.2.1 α β k hlta hltb) hR a3 e3⟩
                intro a3 w6 hb6 hsz6 hdf6 hfacts hout
                obtain ⟨hbx11, g11, f11, hg11⟩ : (Ke.bxn wB.heap.size (kf + kg + 3) (tPQ f g α β k)).holds w6 (a3.tmps.getD 11 undef) := hfacts 6 11 rfl
                rw [f11] at hbx11
                have H7 := Lib.hid (And.intro (H6.out.1.below hb6) (And.intro ((Ke.box _ _).below hb6 H6.out.2.1) (And.intro (H6.out.2.2.1.below hb6) (And.intro (below_next' H6.out.2.2.2 hb6) hbx11))))
                have hszn : a3.tmps.size = 69 := hsz6
                have hdfn : a3.defers = [] := hdf6
                have e0 : a3.tmps.getD 0 undef = .slice a1 n1 c1 := hout 0 (free_of (by kernel_rfl))
                have e1 : a3.tmps.getD 1 undef = .slice a2 n2 c2 := hout 1 (free_of (by kernel_rfl))
                have e2 : a3.tmps.getD 2 undef = undef := hout 2 (free_of (by kernel_rfl))
                have e3 : a3.tmps.getD 3 undef = undef := hout 3 (free_of (by kernel_rfl))
                have e4 : a3.tmps.getD 4 undef = .slice none 0 0 := hout 4 (free_of (by kernel_rfl))
                have e5 : a3.tmps.getD 5 undef = .slice (some ⟨w.heap.size, 0, none⟩) N N := hout 5 (free_of (by kernel_rfl))
                have e12 : a3.tmps.getD 12 undef = .slice a1 n1 c1 := hout 12 (free_of (by kernel_rfl))
                have e13 : a3.tmps.getD 13 undef = .int .i64 n1 := hout 13 (free_of (by kernel_rfl))
                have e14 : a3.tmps.getD 14 undef = .slice a2 n2 c2 := hout 14 (free_of (by kernel_rfl))
                have e15 : a3.tmps.getD 15 undef = .int .i64 n2 := hout 15 (free_of (by kernel_rfl))
                have e16 : a3.tmps.getD 16 undef = .int .i64 ((n1 : Int) + (n2 : Int)) := hout 16 (free_of (by kernel_rfl))
                have e17 : a3.tmps.getD 17 undef = .int .i64 N := hout 17 (free_of (by kernel_rfl))
                have e18 : a3.tmps.getD 18 undef = .slice (some ⟨w.heap.size, 0, none⟩) N N := hout 18 (free_of (by kernel_rfl))
                have e19 : a3.tmps.getD 19 undef = .slice a1 n1 c1 := hout 19 (free_of (by kernel_rfl))
                have e20 : a3.tmps.getD 20 undef = .int .i64 n1 := hout 20 (free_of (by kernel_rfl))
                have e21 : a3.tmps.getD 21 undef = .int .i64 α := hout 21 (free_of (by kernel_rfl))
                have e22 : a3.tmps.getD 22 undef = .bool true := hout 22 (free_of (by kernel_rfl))
                have e23 : a3.tmps.getD 23 undef = .int .i64 α := hout 23 (free_of (by kernel_rfl))
                have e6 : a3.tmps.getD 6 undef = .int .i64 α := hout 6 (free_of (by kernel_rfl))
                have e24 : a3.tmps.getD 24 undef = .slice a2 n2 c2 := hout 24 (free_of (by kernel_rfl))
                have e25 : a3.tmps.getD 25 undef = .int .i64 n2 := hout 25 (free_of (by kernel_rfl))
                have e67 : a3.tmps.getD 67 undef = u67 := hout 67 (free_of (by kernel_rfl))
                have e68 : a3.tmps.getD 68 undef = undef := hout 68 (free_of (by kernel_rfl))
                have e26 : a3.tmps.getD 26 undef = .int .i64 β := hout 26 (free_of (by kernel_rfl))
                have e27 : a3.tmps.getD 27 undef = .bool true := hout 27 (free_of (by kernel_rfl))
                have e28 : a3.tmps.getD 28 undef = .int .i64 β := hout 28 (free_of (by kernel_rfl))
                have e7 : a3.tmps.getD 7 undef = .int .i64 β := hout 7 (free_of (by kernel_rfl))
                have e29 : a3.tmps.getD 29 undef = va 29 := hout 29 (free_of (by kernel_rfl))
                have e30 : a3.tmps.getD 30 undef = va 30 := hout 30 (free_of (by kernel_rfl))
                have e31 : a3.tmps.getD 31 undef = va 31 := hout 31 (free_of (by kernel_rfl))
                have e32 : a3.tmps.getD 32 undef = va 32 := hout 32 (free_of (by kernel_rfl))
                have e33 : a3.tmps.getD 33 undef = va 33 := hout 33 (free_of (by kernel_rfl))
                have e34 : a3.tmps.getD 34 undef = va 34 := hout 34 (free_of (by kernel_rfl))
                have e35 : a3.tmps.getD 35 undef = va 35 := hout 35 (free_of (by kernel_rfl))
                have e36 : a3.tmps.getD 36 undef = va 36 := hout 36 (free_of (by kernel_rfl))
                have e37 : a3.tmps.getD 37 undef = va 37 := hout 37 (free_of (by kernel_rfl))
                have e66 : a3.tmps.getD 66 undef = va 66 := hout 66 (free_of (by kernel_rfl))
                have e8 : a3.tmps.getD 8 undef = .pointer (some ⟨g8, 0, none⟩) := hout 8 (free_of (by kernel_rfl))
                have e9 : a3.tmps.getD 9 undef = .pointer (some ⟨w4.heap.size, 0, none⟩) := hout 9 (free_of (by kernel_rfl))
                have e38 : a3.tmps.getD 38 undef = .int .i64 α := hout 38 (free_of (by kernel_rfl))
                have e39 : a3.tmps.getD 39 undef = .int .i64 β := hout 39 (free_of (by kernel_rfl))
                have e40 : a3.tmps.getD 40 undef = .agg (rowA row) := hout 40 (free_of (by kernel_rfl))
                have e41 : a3.tmps.getD 41 undef = .int .i64 α := hout 41 (free_of (by kernel_rfl))
                have e42 : a3.tmps.getD 42 undef = .int .i64 β := hout 42 (free_of (by kernel_rfl))
                have e43 : a3.tmps.getD 43 undef = .int .i64 α := hout 43 (free_of (by kernel_rfl))
                have e10 : a3.tmps.getD 10 undef = .int .i64 k := hout 10 (free_of (by kernel_rfl))
                obtain ⟨vb, hu⟩ : ∃ u : Nat → Value, ∀ t, a3.tmps.getD t undef = u t := ⟨_, fun _ => rfl⟩
                have ha := act_eq a3 69 hszn hdfn
                simp only [hu] at ha e0 e1 e2 e3 e4 e5 e12 e13 e14 e15 e16 e17 e18 e19 e20 e21 e22 e23 e6 e24 e25 e67 e68 e26 e27 e28 e7 e29 e30 e31 e32 e33 e34 e35 e36 e37 e66 e8 e9 e38 e39 e40 e41 e42 e43 e10 f11
                have ha' : a3 = ⟨#[vb 0, vb 1, vb 2, vb 3, vb 4, vb 5, vb 6, vb 7, vb 8, vb 9, vb 10, vb 11, vb 12, vb 13, vb 14, vb 15, vb 16, vb 17, vb 18, vb 19, vb 20, vb 21, vb 22, vb 23, vb 24, vb 25, vb 26, vb 27, vb 28, vb 29, vb 30, vb 31, vb 32, vb 33, vb 34, vb 35, vb 36, vb 37, vb 38, vb 39, vb 40, vb 41, vb 42, vb 43, vb 44, vb 45, vb 46, vb 47, vb 48, vb 49, vb 50, vb 51, vb 52, vb 53, vb 54, vb 55, vb 56, vb 57, vb 58, vb 59, vb 60, vb 61, vb 62, vb 63, vb 64, vb 65, vb 66, vb 67, vb 68], []⟩ := ha
                rw [e0, e1, e2, e3, e4, e5, e12, e13, e14, e15, e16, e17, e18, e19, e20, e21, e22, e23, e6, e24, e25, e67, e68, e26, e27, e28, e7, e29, e30, e31, e32, e33, e34, e35, e36, e37, e66, e8, e9, e38, e39, e40, e41, e42, e43, e10, f11] at ha'
                clear ha hu e0 e1 e2 e3 e4 e5 e12 e13 e14 e15 e16 e17 e18 e19 e20 e21 e22 e23 e6 e24 e25 e67 e68 e26 e27 e28 e7 e29 e30 e31 e32 e33 e34 e35 e36 e37 e66 e8 e9 e38 e39 e40 e41 e42 e43 e10 f11 hszn hdfn hfacts hout hsz6 hdf6 hb6 hbx11 hg11
                subst ha'
                go_wp2_with fail
                refine region_flow_tail (Fe (m14K w.heap.size N k (kf + kg + 5) (kf + kg + 3) (innM n2 f g α β k) (tPQ f g α β k))) (by rfl) (Fe.mono _) 69 9 [] (by rfl) (by kernel_rfl) (by kernel_rfl) (by kernel_rfl) (by kernel_rfl) (fun t ht => by cases ht) [5, 10, 11] (by kernel_rfl) ?h014 (Fe.draw _) ?hs14 ?hf14
                case h014 =>
                  intro t ht
                  simp only [List.mem_cons, List.not_mem_nil, or_false] at ht
                  rcases ht with rfl | rfl | rfl
                  · exact ⟨rfl, H7.out.1.toA (by omega)⟩
                  · rfl
                  · exact H7.out.2.2.2.2
                case hs14 =>
                  exact ⟨flowN_of (e_move rfl) (by decide), flowN_of (e_move rfl) (by decide), flowN_of (e_move rfl) (by decide), flowN_of (e_move rfl) (by decide), flowN_of (e_indexA rfl rfl rfl (by omega)) (by decide), flowN_of (e_loadEA rfl rfl) (by decide), flowN_of (e_loadR rfl rfl) (by decide), flowN_of (e_add70 rfl rfl rfl (by omega)) (by decide), flowN_of (e_idxM rfl rfl rfl (by omega)) (by decide), trivial⟩
                intro a3 w7 hb7 hsz7 hdf7 hfacts hout _
                have f64 : RatC w7 (a3.tmps.getD 64 undef) (innM n2 f g α β k k + tPQ f g α β k) := hfacts 7 64 (by decide) rfl
                have f65 : a3.tmps.getD 65 undef = .pointer (some ⟨w.heap.size, 0 + k * 3, none⟩) := hfacts 8 65 (by decide) rfl
                rw [innM_at] at f64
                have hszn : a3.tmps.size = 69 := hsz7
                have hdfn : a3.defers = [] := hdf7
                change runFrom _ _ _ 1 9 a3 w7
                simp only [runFrom]
                refine e_storeM (t := 65) (u := 64) (F' := innM n2 f g α β (k + 1)) rfl f65 (H7.out.1.below hb7) (by omega) f64 (HL.out.2.2.2.2 α β (k + 1) k hlta hltb) (fun j hj => innM_other hj) fun v0 v1 v2 hM8 => ?_
                obtain ⟨xs, l1, l2, l3, _⟩ := H7.out.1.below hb7
                have hgr := grown_setL w7 w.heap.size (k * 3) v0 v1 v2
                have hX8 := box_kept ((Ke.box _ _).below hb7 H7.out.2.1) l1 l3 hgr (by simp; exact HS.out.2.2.2.2.1)
                have hW8 := (H7.out.2.2.1.below hb7).kept hgr (by simp; exact HS.out.2.2.2.2.2.1)
                have HN := Lib.hid (And.intro hM8 (And.intro hX8 (And.intro hW8 (below_setL (below_next' H7.out.2.2.2.1 hb7) (o := k * 3) (Nat.le_refl _) v0 v1 v2))))
                generalize (((w7.setCell ⟨w.heap.size, k * 3, none⟩ v0).setCell ⟨w.heap.size, k * 3 + 1, none⟩ v1).setCell ⟨w.heap.size, k * 3 + 2, none⟩ v2) = w8 at HN ⊢
                have e0 : a3.tmps.getD 0 undef = .slice a1 n1 c1 := hout 0 (free_of (by kernel_rfl))
                have e1 : a3.tmps.getD 1 undef = .slice a2 n2 c2 := hout 1 (free_of (by kernel_rfl))
                have e2 : a3.tmps.getD 2 undef = undef := hout 2 (free_of (by kernel_rfl))
                have e3 : a3.tmps.getD 3 undef = undef := hout 3 (free_of (by kernel_rfl))
                have e4 : a3.tmps.getD 4 undef = .slice none 0 0 := hout 4 (free_of (by kernel_rfl))
                have e5 : a3.tmps.getD 5 undef = .slice (some ⟨w.heap.size, 0, none⟩) N N := hout 5 (free_of (by kernel_rfl))
                have e12 : a3.tmps.getD 12 undef = .slice a1 n1 c1 := hout 12 (free_of (by kernel_rfl))
                have e13 : a3.tmps.getD 13 undef = .int .i64 n1 := hout 13 (free_of (by kernel_rfl))
                have e14 : a3.tmps.getD 14 undef = .slice a2 n2 c2 := hout 14 (free_of (by kernel_rfl))
                have e15 : a3.tmps.getD 15 undef = .int .i64 n2 := hout 15 (free_of (by kernel_rfl))
                have e16 : a3.tmps.getD 16 undef = .int .i64 ((n1 : Int) + (n2 : Int)) := hout 16 (free_of (by kernel_rfl))
                have e17 : a3.tmps.getD 17 undef = .int .i64 N := hout 17 (free_of (by kernel_rfl))
                have e18 : a3.tmps.getD 18 undef = .slice (some ⟨w.heap.size, 0, none⟩) N N := hout 18 (free_of (by kernel_rfl))
                have e19 : a3.tmps.getD 19 undef = .slice a1 n1 c1 := hout 19 (free_of (by kernel_rfl))
                have e20 : a3.tmps.getD 20 undef = .int .i64 n1 := hout 20 (free_of (by kernel_rfl))
                have e21 : a3.tmps.getD 21 undef = .int .i64 α := hout 21 (free_of (by kernel_rfl))
                have e22 : a3.tmps.getD 22 undef = .bool true := hout 22 (free_of (by kernel_rfl))
                have e23 : a3.tmps.getD 23 undef = .int .i64 α := hout 23 (free_of (by kernel_rfl))
                have e6 : a3.tmps.getD 6 undef = .int .i64 α := hout 6 (free_of (by kernel_rfl))
                have e24 : a3.tmps.getD 24 undef = .slice a2 n2 c2 := hout 24 (free_of (by kernel_rfl))
                have e25 : a3.tmps.getD 25 undef = .int .i64 n2 := hout 25 (free_of (by kernel_rfl))
                have e67 : a3.tmps.getD 67 undef = u67 := hout 67 (free_of (by kernel_rfl))
                have e68 : a3.tmps.getD 68 undef = undef := hout 68 (free_of (by kernel_rfl))
                have e26 : a3.tmps.getD 26 undef = .int .i64 β := hout 26 (free_of (by kernel_rfl))
                have e27 : a3.tmps.getD 27 undef = .bool true := hout 27 (free_of (by kernel_rfl))
                have e28 : a3.tmps.getD 28 undef = .int .i64 β := hout 28 (free_of (by kernel_rfl))
                have e7 : a3.tmps.getD 7 undef = .int .i64 β := hout 7 (free_of (by kernel_rfl))
                have e29 : a3.tmps.getD 29 undef = va 29 := hout 29 (free_of (by kernel_rfl))
                have e30 : a3.tmps.getD 30 undef = va 30 := hout 30 (free_of (by kernel_rfl))
                have e31 : a3.tmps.getD 31 undef = va 31 := hout 31 (free_of (by kernel_rfl))
                have e32 : a3.tmps.getD 32 undef = va 32 := hout 32 (free_of (by kernel_rfl))
                have e33 : a3.tmps.getD 33 undef = va 33 := hout 33 (free_of (by kernel_rfl))
                have e34 : a3.tmps.getD 34 undef = va 34 := hout 34 (free_of (by kernel_rfl))
                have e35 : a3.tmps.getD 35 undef = va 35 := hout 35 (free_of (by kernel_rfl))
                have e36 : a3.tmps.getD 36 undef = va 36 := hout 36 (free_of (by kernel_rfl))
                have e37 : a3.tmps.getD 37 undef = va 37 := hout 37 (free_of (by kernel_rfl))
                have e66 : a3.tmps.getD 66 undef = va 66 := hout 66 (free_of (by kernel_rfl))
                have e8 : a3.tmps.getD 8 undef = .pointer (some ⟨g8, 0, none⟩) := hout 8 (free_of (by kernel_rfl))
                have e9 : a3.tmps.getD 9 undef = .pointer (some ⟨w4.heap.size, 0, none⟩) := hout 9 (free_of (by kernel_rfl))
                have e38 : a3.tmps.getD 38 undef = .int .i64 α := hout 38 (free_of (by kernel_rfl))
                have e39 : a3.tmps.getD 39 undef = .int .i64 β := hout 39 (free_of (by kernel_rfl))
                have e40 : a3.tmps.getD 40 undef = .agg (rowA row) := hout 40 (free_of (by kernel_rfl))
                have e41 : a3.tmps.getD 41 undef = .int .i64 α := hout 41 (free_of (by kernel_rfl))
                have e42 : a3.tmps.getD 42 undef = .int .i64 β := hout 42 (free_of (by kernel_rfl))
                have e43 : a3.tmps.getD 43 undef = .int .i64 α := hout 43 (free_of (by kernel_rfl))
                have e10 : a3.tmps.getD 10 undef = .int .i64 k := hout 10 (free_of (by kernel_rfl))
                obtain ⟨vc, hu⟩ : ∃ u : Nat → Value, ∀ t, a3.tmps.getD t undef = u t := ⟨_, fun _ => rfl⟩
                have ha := act_eq a3 69 hszn hdfn
                simp only [hu] at ha e0 e1 e2 e3 e4 e5 e12 e13 e14 e15 e16 e17 e18 e19 e20 e21 e22 e23 e6 e24 e25 e67 e68 e26 e27 e28 e7 e29 e30 e31 e32 e33 e34 e35 e36 e37 e66 e8 e9 e38 e39 e40 e41 e42 e43 e10
                have ha' : a3 = ⟨#[vc 0, vc 1, vc 2, vc 3, vc 4, vc 5, vc 6, vc 7, vc 8, vc 9, vc 10, vc 11, vc 12, vc 13, vc 14, vc 15, vc 16, vc 17, vc 18, vc 19, vc 20, vc 21, vc 22, vc 23, vc 24, vc 25, vc 26, vc 27, vc 28, vc 29, vc 30, vc 31, vc 32, vc 33, vc 34, vc 35, vc 36, vc 37, vc 38, vc 39, vc 40, vc 41, vc 42, vc 43, vc 44, vc 45, vc 46, vc 47, vc 48, vc 49, vc 50, vc 51, vc 52, vc 53, vc 54, vc 55, vc 56, vc 57, vc 58, vc 59, vc 60, vc 61, vc 62, vc 63, vc 64, vc 65, vc 66, vc 67, vc 68], []⟩ := ha
                rw [e0, e1, e2, e3, e4, e5, e12, e13, e14, e15, e16, e17, e18, e19, e20, e21, e22, e23, e6, e24, e25, e67, e68, e26, e27, e28, e7, e29, e30, e31, e32, e33, e34, e35, e36, e37, e66, e8, e9, e38, e39, e40, e41, e42, e43, e10] at ha'
                clear ha hu e0 e1 e2 e3 e4 e5 e12 e13 e14 e15 e16 e17 e18 e19 e20 e21 e22 e23 e6 e24 e25 e67 e68 e26 e27 e28 e7 e29 e30 e31 e32 e33 e34 e35 e36 e37 e66 e8 e9 e38 e39 e40 e41 e42 e43 e10 hszn hdfn hfacts hout hsz7 hdf7 hb7 f64 f65 hM8 hX8 hW8 hgr l1 l2 l3
                subst ha'
                go_wp2
                go_roundw
                case rel => exact ⟨k + 1, by omega, by omega, by omega, by go_num, HN.out⟩
                case measure => simp [intOf]; omega
              · have hki : ¬ (k : Int) ≤ (α : Int) + (β : Int) := by omega
                have HN := Lib.hid (And.intro (hM.congr (F' := partM n2 f g α (β + 1)) fun j _ => innM_end (by omega) j) hbel)
                clear hM hX hW hbel hltk
                go_wp2
                go_roundw
                case rel => exact ⟨β + 1, by omega, by go_num, HN.out⟩
                case measure => simp [intOf]; omega
        · obtain rfl : β = n2 := by omega
          have HN := Lib.hid (And.intro (hM.congr (F' := partM β f g (α + 1) 0) fun j _ => partM_a β f g α j) hbel)
          clear hM hbel hltb
          go_wp2
          go_roundw
          case rel => exact ⟨α + 1, by omega, by go_num, HN.out⟩
          case measure => simp [intOf]; omega
    · obtain rfl : α = n1 := by omega
      have HF := Lib.hid (And.intro ((hM.congr (F' := mulC α n2 f g) fun j _ => partM_end α n2 f g j).toA (by omega)) hbel)
      clear hM hbel hlta
      go_wp2
      go_ret
      exact ⟨rfl, HF.out.1, HF.out.2⟩
end Go.Proofs.Ytdpiclmjdcjajaa

/-
  The walk of Mul. Conditions: numbers of at most 8 limbs.
-/
namespace Go.Proofs.Ytdpiclmjdcjajaa
open Go.RowKit Num

set_option maxRecDepth 100000 in
set_option maxHeartbeats 8000000 in
theorem scanonA_any (a : Option Addr) (n cap k K : Nat) (f : Nat → Rat) (S : Rat) (s : Bool) (an : Option Addr) (ln cn : Nat) (ad : Option Addr) (ld cd : Nat) (w : World) (hn : n ≤ 40) (hl : LstA w (.slice a n cap) n k f) (hS : RatC w (.agg #[.bool s, .slice an ln cn, .slice ad ld cd]) S)
    (hf : ∀ i, i < n → Sz (f i) k) (hz : Sz S K) (hk : k + K ≤ 9990) :
    Calls Try.prog 74 #[.agg #[.slice a n cap, .bool s, .slice an ln cn, .slice ad ld cd]] w (fun e w' => ∃ v, e = .returned v ∧ Lst w' v (trimN (fun i => f i * (1 / S)) n) (fun i => f i * (1 / S)) ∧ Below w.heap.size w w') := by
  obtain ⟨I, hI⟩ : ∃ I, 1 / S = I := ⟨_, rfl⟩
  have hzI : Sz I (K + 2) := by
    rw [← hI]
    exact sz_le (sz_div (a := 1) (sz_le (a := 1) (by have := sz_nat (n := 1) (by decide); exact quo_one ▸ this) (by omega)) hz) (by omega)
  have hb0 := below_alloc1 w (.cells #[.slice a n cap, .bool s, .slice an ln cn, .slice ad ld cd] 80)
  have hB0 := BoxV.new w w.heap.size 80 (Nat.le_refl _) [.slice a n cap, .bool s, .slice an ln cn, .slice ad ld cd]
  have c0 : (w.alloc (.cells #[.slice a n cap, .bool s, .slice an ln cn, .slice ad ld cd] 80)).cell? ⟨w.heap.size, 0, none⟩ = some (.slice a n cap) := hB0.cell 0 (by simp)
  have c1 : (w.alloc (.cells #[.slice a n cap, .bool s, .slice an ln cn, .slice ad ld cd] 80)).cell? ⟨w.heap.size, 1, none⟩ = some (.bool s) := hB0.cell 1 (by simp)
  have c2 : (w.alloc (.cells #[.slice a n cap, .bool s, .slice an ln cn, .slice ad ld cd] 80)).cell? ⟨w.heap.size, 2, none⟩ = some (.slice an ln cn) := hB0.cell 2 (by simp)
  have c3 : (w.alloc (.cells #[.slice a n cap, .bool s, .slice an ln cn, .slice ad ld cd] 80)).cell? ⟨w.heap.size, 3, none⟩ = some (.slice ad ld cd) := hB0.cell 3 (by simp)
  rw [hI]
  have HA := Lib.hid (And.intro (hl.below hb0) (And.intro (hS.below hb0) (And.intro hb0 (And.intro hB0 (And.intro c0 (And.intro c1 (And.intro c2 c3)))))))
  have HS := Lib.hid (And.intro hf (And.intro hz (And.intro hzI hI)))
  clear hl hS hf hz hzI hb0 hB0 c0 c1 c2 c3 hI
  go_enter Try.func74, Try.ntmps74
  go_wp2_with fail
  refine region_flow_store (Fe (caA (w.alloc (.cells #[.slice a n cap, .bool s, .slice an ln cn, .slice ad ld cd] 80)).heap.size S I)) (Fe (caB (K + 2) I)) (by rfl) (Fe.mono _) (Fe.mono _) 17 8 [6, 9] (by rfl) (by kernel_rfl) (by kernel_rfl) (by kernel_rfl) [1] (by kernel_rfl) ?g0 (Fe.draw _) ?gs ?g2 ?gt ?gf
  case g0 =>
    intro t ht
    simp only [List.mem_cons, List.not_mem_nil, or_false] at ht
    subst ht
    exact ⟨w.heap.size, _, _, _, rfl, HA.out.2.2.2.2.2.1, HA.out.2.2.2.2.2.2.1, HA.out.2.2.2.2.2.2.2, HA.out.2.1⟩
  case gs =>
    refine ⟨flowB_of (e_from1 (k := 1) (by rw [quo_one]; rfl) (by omega) (by omega) (sz_nat (n := 1) (by decide))), flowB_of (e_fa80 rfl rfl), flowB_of (e_loadEC rfl rfl), flowB_of (e_div116 rfl rfl HS.out.2.1 ?_ (by omega)), flowB_of (e_move rfl), flowB_of (e_ext0 rfl rfl), flowB_of (e_ext1 rfl rfl), e_new rfl, ?_⟩
    · rw [HS.out.2.2.2]
      rfl
    · intro o ho
      simp only [List.mem_cons, List.not_mem_nil, or_false] at ho
      subst ho
      exact flowB_of (e_assign rfl)
  case g2 =>
    intro i hi o ho
    simp only [List.mem_cons, List.not_mem_nil, or_false] at hi
    rcases hi with rfl | rfl
    · obtain rfl := Option.some.inj ho
      exact e_ext1b rfl rfl
    · obtain rfl := Option.some.inj ho
      exact e_assign rfl
  case gt =>
    intro a3 w3 hb3 hsz3 hdf3 hfacts hout
    obtain ⟨g, e3, hB3⟩ : ∃ g, a3.tmps.getD 3 undef = .pointer (some ⟨g, 0, none⟩) ∧ BoxV w3 _ g 24 [.bool false, .slice none 0 0, .slice none 0 0] := hfacts 7 3 (by decide) rfl
    have f10 : RatC w3 (a3.tmps.getD 10 undef) I := hfacts 5 10 (by decide) rfl
    refine e_store (t := 3) (u := 10) rfl e3 hB3 f10 fun an' ln' cn' ad' ld' cd' hR => ?_
    exact ⟨rfl, below_set3 hb3 hB3.block.1 _ _ _, caA_store hB3 HS.out.2.2.1 hR a3 e3⟩
  case gf =>
    intro a3 w3 hb3 hsz3 hdf3 hfacts hout
    obtain ⟨g, x0, x1, x2, e3, d0, d1, d2, hr, _⟩ : (Ke.box (K + 2) I).holds w3 (a3.tmps.getD 3 undef) := hfacts 7 3 rfl
    obtain ⟨y1, y2, y3, y4, y5, y6, hy, _⟩ := id hr
    obtain ⟨rfl, rfl, rfl⟩ : x0 = .bool (decide (I.num < 0)) ∧ x1 = .slice y1 y2 y3 ∧ x2 = .slice y4 y5 y6 := by simpa using hy
    have e0 : a3.tmps.getD 0 undef = .agg #[.slice a n cap, .bool s, .slice an ln cn, .slice ad ld cd] := hout 0 (free_of (by kernel_rfl))
    have e1 : a3.tmps.getD 1 undef = .pointer (some ⟨w.heap.size, 0, none⟩) := hout 1 (free_of (by kernel_rfl))
    have e2 : a3.tmps.getD 2 undef = .slice none 0 0 := hout 2 (free_of (by kernel_rfl))
    have hszn : a3.tmps.size = 17 := hsz3
    have hdfn : a3.defers = [] := hdf3
    have c0 := cell_below hb3 HA.out.2.2.2.2.1
    have H3 := Lib.hid (And.intro (HA.out.1.below hb3) (And.intro hr (below_next' HA.out.2.2.1 hb3)))
    obtain ⟨uu, hu⟩ : ∃ u : Nat → Value, ∀ t, a3.tmps.getD t undef = u t := ⟨_, fun _ => rfl⟩
    have ha := act_eq a3 17 hszn hdfn
    simp only [hu] at ha e0 e1 e2 e3
    have ha' : a3 = ⟨#[uu 0, uu 1, uu 2, uu 3, uu 4, uu 5, uu 6, uu 7, uu 8, uu 9, uu 10, uu 11, uu 12, uu 13, uu 14, uu 15, uu 16], []⟩ := ha
    rw [e0, e1, e2, e3] at ha'
    clear ha hu e0 e1 e2 e3 hfacts hout hszn hdfn hsz3 hdf3 hb3 hr hy
    subst ha'
    obtain ⟨sI, hsI⟩ : ∃ s, decide (I.num < 0) = s := ⟨_, rfl⟩
    rw [hsI] at d0 H3
    clear hsI
    go_wp2_with fail
    refine (multiplyAllA_any a n cap k (K + 2) f I _ w3 hn H3.out.1 H3.out.2.1 HS.out.2.2.1 (by omega)).mono ?_
    rintro e w4 ⟨g4, rfl, hL, hb4⟩
    have hl4 := hL.lst (cap := n) (Nat.le_refl _) (by omega)
    have H4 := Lib.hid (And.intro hl4 (And.intro (hl4.toA fun i hi => sz_mul (HS.out.1 i hi) HS.out.2.2.1) (below_next' H3.out.2.2 hb4)))
    have ht := trimN_le (fun i => f i * I) n
    clear hL hl4 hb4 d0 d1 d2 c0
    go_wp2_with fail
    refine (trimL_any _ n n _ (fun i => f i * I) _ H4.out.2.1).mono ?_
    rintro e w5 ⟨rfl, hb5⟩
    have HF := Lib.hid (And.intro ((H4.out.1.below hb5).cut ht) (below_next' H4.out.2.2 hb5))
    clear hb5
    go_wp2
    go_ret
    exact ⟨_, rfl, HF.out.1, HF.out.2⟩

def Ke.new80 (B : Nat) : Ke := ⟨fun w v => ∃ g, v = .pointer (some ⟨g, 0, none⟩) ∧ BoxV w B g 80 [.slice none 0 0, .bool false, .slice none 0 0, .slice none 0 0], fun hb ⟨g, e, h⟩ => ⟨g, e, h.below hb⟩⟩
/-- A list in any form and its scale. -/
def Ke.scA (n k : Nat) (f : Nat → Rat) (S : Rat) : Ke := ⟨fun w v => ∃ gP s an ln cn ad ld cd, v = .agg #[.slice (some ⟨gP, 0, none⟩) n n, .bool s, .slice an ln cn, .slice ad ld cd] ∧ LstA w (.slice (some ⟨gP, 0, none⟩) n n) n k f ∧ RatC w (.agg #[.bool s, .slice an ln cn, .slice ad ld cd]) S,
  fun hb ⟨gP, s, an, ln, cn, ad, ld, cd, e, h1, h2⟩ => ⟨gP, s, an, ln, cn, ad, ld, cd, e, h1.below hb, h2.below hb⟩⟩
def Ke.lv0 (n k : Nat) (f : Nat → Rat) : Ke := ⟨fun w v => ∃ g, v = .slice (some ⟨g, 0, none⟩) n n ∧ LstA w v n k f, fun hb ⟨g, e, h⟩ => ⟨g, e, h.below hb⟩⟩
/-- A variable of the same. -/
def Ke.b8A (n k : Nat) (f : Nat → Rat) (S : Rat) : Ke := ⟨fun w v => ∃ g a cap s an ln cn ad ld cd, v = .pointer (some ⟨g, 0, none⟩) ∧ w.cell? ⟨g, 0, none⟩ = some (.slice a n cap) ∧ w.cell? ⟨g, 1, none⟩ = some (.bool s) ∧ w.cell? ⟨g, 2, none⟩ = some (.slice an ln cn) ∧ w.cell? ⟨g, 3, none⟩ = some (.slice ad ld cd) ∧ LstA w (.slice a n cap) n k f ∧ RatC w (.agg #[.bool s, .slice an ln cn, .slice ad ld cd]) S,
  fun hb ⟨g, a, cap, s, an, ln, cn, ad, ld, cd, e, c0, c1, c2, c3, h1, h2⟩ => ⟨g, a, cap, s, an, ln, cn, ad, ld, cd, e, cell_below hb c0, cell_below hb c1, cell_below hb c2, cell_below hb c3, h1.below hb, h2.below hb⟩⟩

section
variable {κ : Tmp → Ke} {G : Nat → Option Tmp} {d s t u c : Tmp} {ty : TypeId} {pos : String} {es : Array Edge} {k k' B n m K : Nat} {p q S : Rat} {f f' : Nat → Rat}
theorem run_alloc80 (a : Act) (d : Option Tmp) (ty : TypeId) (pos : String) (es : Array Edge) (w : World) :
    Sem.run Try.prog (execOp a.eval ⟨d, .alloc 80, ty, pos, es, none⟩) w = .ok (.value (.pointer (some ⟨w.heap.size, 0, none⟩))) (w.alloc (.cells #[.slice none 0 0, .bool false, .slice none 0 0, .slice none 0 0] 80)) := by
  go_simp
theorem e_new80 (hd : κ d = .new80 B) : FlowStepB Try.prog (Fe κ) G B ⟨some d, .alloc 80, ty, pos, es, none⟩ := by
  intro a w Q hB _
  refine ⟨fun _ => ?_, fun h => by simp [flowWanted] at h⟩
  unfold Oper.wp
  rw [run_alloc80, Oper.upon_value]
  refine ⟨_, rfl, below_alloc1 _ _, fun d' hd' => ?_⟩
  cases hd'
  unfold Fe
  rw [hd]
  exact ⟨_, rfl, BoxV.new w B 80 hB [.slice none 0 0, .bool false, .slice none 0 0, .slice none 0 0]⟩
theorem e_mulCC (ht : κ t = .ratC p) (hp : Sz p k) (hu : κ u = .ratC q) (hq : Sz q k') (hd : κ d = .ratC (p * q)) (hk : k + k' ≤ 20000) :
    FlowStep Try.prog (Fe κ) G ⟨some d, .call ⟨.value (.func 73), #[.tmp t, .tmp u], #[24, 24]⟩, ty, pos, es, none⟩ :=
  e_c2 (fun a w => c2_73b _ _ _ _ _ _ _ _) fun w x y hx hy => by
    rw [ht] at hx
    rw [hu] at hy
    have hx : RatC w x p := hx
    have hy : RatC w y q := hy
    refine (mul_a (k := k + k') ((hx.a hp).le (by omega)) ((hy.a hq).le (by omega)) hk).mono ?_
    rintro e w' ⟨v, rfl, hv, hb⟩
    exact ⟨v, rfl, by rw [hd]; exact hv, hb⟩
theorem c2_72 (a : Act) (d : Option Tmp) (ty : TypeId) (pos : String) (es : Array Edge) (t u : Tmp) (w : World) :
    Sem.run Try.prog (execOp a.eval ⟨d, .call ⟨.value (.func 72), #[.tmp t, .tmp u], #[32, 32]⟩, ty, pos, es, none⟩) w = .ok (.enter 72 #[a.tmps.getD t undef, a.tmps.getD u undef]) w := by go_simp
set_option maxRecDepth 100000 in
theorem e_mulInts {a1 a2 : Option Addr} {n1 n2 c1 c2 kf kg N : Nat} {f g : Nat → Rat} (ht : κ t = .lst (.slice a1 n1 c1) n1 f) (hu : κ u = .lst (.slice a2 n2 c2) n2 g) (hd : κ d = .lv0 N (kf + kg + 5) (mulC n1 n2 f g))
    (hn1 : 1 ≤ n1) (hn2 : 1 ≤ n2) (hn : n1 + n2 ≤ 34) (hN : N + 1 = n1 + n2) (hf : ∀ i, i < n1 → Wh 1 (pw kf) (f i)) (hg : ∀ i, i < n2 → Wh 1 (pw kg) (g i)) (hk : kf + kg ≤ 5000) :
    FlowStep Try.prog (Fe κ) G ⟨some d, .call ⟨.value (.func 72), #[.tmp t, .tmp u], #[32, 32]⟩, ty, pos, es, none⟩ := by
  refine e_step rfl fun a w Q hf' => ?_
  have h := hf' t (by simp [Op.operands, Call.operands])
  have h' := hf' u (by simp [Op.operands, Call.operands])
  rw [ht] at h
  rw [hu] at h'
  obtain ⟨e1, h1⟩ := (show a.tmps.getD t undef = .slice a1 n1 c1 ∧ Lst w _ n1 f from h)
  obtain ⟨e2, h2⟩ := (show a.tmps.getD u undef = .slice a2 n2 c2 ∧ Lst w _ n2 g from h')
  rw [e1] at h1
  rw [e2] at h2
  unfold Oper.wp
  rw [c2_72, e1, e2, Oper.upon_enter]
  refine (mulInts_any a1 a2 n1 n2 c1 c2 kf kg N f g w hn1 hn2 hn hN h1 h2 hf hg hk).mono ?_
  rintro e w' ⟨rfl, hv, hb⟩
  exact ⟨_, rfl, hb, fun d' hd' => by cases hd'; rw [hd]; exact ⟨_, rfl, hv⟩⟩
set_option maxRecDepth 100000 in
theorem e_build80a (ht : κ t = .lv0 n k f) (hu : κ u = .ratC S) (hd : κ d = .scA n k f S) : FlowStep Try.prog (Fe κ) G ⟨some d, .build 80 #[(0, .tmp t), (1, .tmp u)], ty, pos, es, none⟩ := by
  refine e_step rfl fun a w Q hf' => ?_
  have h := hf' t (by simp [Op.operands])
  have h' := hf' u (by simp [Op.operands])
  rw [ht] at h
  rw [hu] at h'
  obtain ⟨gP, e, h1⟩ := (show ∃ g, a.tmps.getD t undef = .slice (some ⟨g, 0, none⟩) n n ∧ LstA w (a.tmps.getD t undef) n k f from h)
  have h2 : RatC w (a.tmps.getD u undef) S := h'
  obtain ⟨an, ln, cn, ad, ld, cd, ev, _⟩ := id h2
  rw [e] at h1
  rw [ev] at h2
  unfold Oper.wp
  rw [run_build80 _ _ _ _ _ _ _ _ _ _ _ _ _ _ _ rfl e ev, Oper.upon_value]
  exact ⟨_, rfl, Below.refl _ _, fun d' hd' => by cases hd'; rw [hd]; exact ⟨gP, _, _, _, _, _, _, _, rfl, h1, h2⟩⟩
end
theorem LstA.kept {w w' : World} {a : Option Addr} {n cap k : Nat} {f : Nat → Rat} {B g t : Nat} {xs : List Value} (h : LstA w (.slice a n cap) n k f) (hb : BoxV w B g t xs) (hx : NoLimb xs) (hg : w.grownBy w' (some g)) (hne : 0 < n → ∀ b, a = some b → b.block ≠ g) : LstA w' (.slice a n cap) n k f := by
  obtain ⟨a', cap', e, h1, h2, h3⟩ := h
  obtain ⟨rfl, rfl⟩ : a = a' ∧ cap = cap' := by simpa using e
  refine ⟨_, _, rfl, h1, h2, fun i hi => ?_⟩
  obtain ⟨g', o, x, y, z, rfl, c0, c1, c2, hr⟩ := h3 i hi
  have hn := hne (by omega) _ rfl
  have cell : ∀ j u, w.cell? ⟨g', j, none⟩ = some u → w'.cell? ⟨g', j, none⟩ = some u := fun j u hc => hg.cell hc (by simpa using hn)
  exact ⟨g', o, x, y, z, rfl, cell _ _ c0, cell _ _ c1, cell _ _ c2, hr.other hb hx hg⟩
def oneA (t0 n k : Nat) (f : Nat → Rat) (S : Rat) : Tmp → Ke := fun t => if t = t0 then .b8A n k f S else .any
theorem boxA_store {κ : Tmp → Ke} {t0 B n k : Nat} {f : Nat → Rat} {S : Rat} {w : World} {g : Nat} {gP : Nat} {an ad : Option Addr} {ln cn ld cd : Nat} {s : Bool} (hB : BoxV w B g 80 [.slice none 0 0, .bool false, .slice none 0 0, .slice none 0 0]) (hL : LstA w (.slice (some ⟨gP, 0, none⟩) n n) n k f) (hR : RatC w (.agg #[.bool s, .slice an ln cn, .slice ad ld cd]) S)
    (a : Act) (e3 : a.tmps.getD t0 undef = .pointer (some ⟨g, 0, none⟩)) (t : Tmp) (_ : Fe κ t w (a.tmps.getD t undef)) :
    Fe (oneA t0 n k f S) t ((((w.setCell ⟨g, 0, none⟩ (.slice (some ⟨gP, 0, none⟩) n n)).setCell ⟨g, 1, none⟩ (.bool s)).setCell ⟨g, 2, none⟩ (.slice an ln cn)).setCell ⟨g, 3, none⟩ (.slice ad ld cd)) (a.tmps.getD t undef) := by
  by_cases h3 : t = t0
  · subst h3
    have e : oneA t n k f S t = .b8A n k f S := if_pos rfl
    show (oneA t n k f S t).holds _ _
    rw [e]
    have hgr := grown_set80 w g (.slice (some ⟨gP, 0, none⟩) n n) (.bool s) (.slice an ln cn) (.slice ad ld cd)
    have hZ := boxV_setT (boxV_setT (boxV_setT (boxV_setT hB 0 (.slice (some ⟨gP, 0, none⟩) n n)) 1 (.bool s)) 2 (.slice an ln cn)) 3 (.slice ad ld cd)
    refine ⟨g, some ⟨gP, 0, none⟩, n, s, an, ln, cn, ad, ld, cd, e3, hZ.cell 0 (by simp), hZ.cell 1 (by simp), hZ.cell 2 (by simp), hZ.cell 3 (by simp), hL.kept hB noLimb_zero80 hgr (fun h0 b eb => ?_), hR.other hB noLimb_zero80 hgr⟩
    obtain rfl := Option.some.inj eb
    rintro e
    have e : gP = g := e
    subst e
    obtain ⟨g', o, x, y, z, ea, c0, _, _, hr⟩ := hL.elem (i := 0) h0
    obtain ⟨rfl, rfl⟩ : gP = g' ∧ 0 = o := by simpa using ea
    obtain ⟨_, _, _, _, _, _, _, rfl, _⟩ := hr.shape
    have c1 := hB.cell 0 (by simp)
    rw [show 0 + 0 * 3 = 0 from rfl, c1] at c0
    simp at c0
  · have e : oneA t0 n k f S t = .any := if_neg h3
    show (oneA t0 n k f S t).holds _ _
    rw [e]
    trivial

def muK (B : Nat) (u v : Value) (m1 m2 N K : Nat) (F G : Nat → Rat) (S1 S2 : Rat) : Tmp → Ke := fun t => ([.any, .any, .any, .any, .any, .any, .b80 u m1 F S1, .b80 v m2 G S2, .new80 B, .any, .any, .any, .any, .any, .any, .any, .any, .any, .any, .any, .any, .any, .any, .any, .any, .any, .any, .any, .any, .any, .any, .any, .any, .any, .any, .any, .any, .any, .any, .any, .c80 u m1 F, .lst u m1 F, .c80 v m2 G, .lst v m2 G, .lv0 N K (mulC m1 m2 F G), .elC S1, .ratC S1, .elC S2, .ratC S2, .ratC (S1 * S2), .scA N K (mulC m1 m2 F G) (S1 * S2)] : List Ke).getD t .any

set_option maxRecDepth 100000 in
set_option maxHeartbeats 8000000 in
theorem mul_in (a1 a2 : Option Addr) (n1 n2 c1 c2 m1 m2 N : Nat) (f g : Nat → Rat) (w : World) (hn1 : n1 ≤ 33) (hn2 : n2 ≤ 33) (hl1 : LstA w (.slice a1 n1 c1) n1 8 f) (hl2 : LstA w (.slice a2 n2 c2) n2 8 g) (hf : ∀ i, i < n1 → Sz (f i) 9) (hg : ∀ i, i < n2 → Sz (g i) 9)
    (hm1 : trimN f n1 = m1) (hm2 : trimN g n2 = m2) (hp1 : 1 ≤ m1) (hp2 : 1 ≤ m2) (hm : m1 + m2 ≤ 34) (hN : N + 1 = m1 + m2) :
    Calls Try.prog 34 #[.slice a1 n1 c1, .slice a2 n2 c2] w (ListB (trimN (mulC m1 m2 f g) N) (mulC m1 m2 f g) true w) := by
  have t1 : m1 ≤ n1 := by rw [← hm1]; exact trimN_le f n1
  have t2 : m2 ≤ n2 := by rw [← hm2]; exact trimN_le g n2
  have hcan1 := fun w h => canonical_list a1 n1 c1 8 f w h (by omega) (by omega)
  have hcan2 := fun w h => canonical_list a2 n2 c2 8 g w h (by omega) (by omega)
  rw [hm1] at hcan1
  rw [hm2] at hcan2
  have hf' : ∀ i, i < m1 → Sz (f i) 9 := fun i hi => hf i (by omega)
  have hg' : ∀ i, i < m2 → Sz (g i) 9 := fun i hi => hg i (by omega)
  have hsc1 : Sz ((scl f m1 : Nat) : Rat) 298 := sz_le (sz_natR (scl_lt hf' m1 (Nat.le_refl _)) (by omega)) (by omega)
  have hsc2 : Sz ((scl g m2 : Nat) : Rat) 298 := sz_le (sz_natR (scl_lt hg' m2 (Nat.le_refl _)) (by omega)) (by omega)
  have hw1 : ∀ i, i < m1 → Wh 1 (pw 308) (f i * ((scl f m1 : Nat) : Rat)) := fun i hi => wh_scl (K := 9) hf' hi (by omega)
  have hw2 : ∀ i, i < m2 → Wh 1 (pw 308) (g i * ((scl g m2 : Nat) : Rat)) := fun i hi => wh_scl (K := 9) hg' hi (by omega)
  have hcs1 := fun w b cp h => scaleA_any b m1 cp 9 9 298 f w (by omega) h hf' (by omega) (by omega) (by omega) (by omega)
  have hcs2 := fun w b cp h => scaleA_any b m2 cp 9 9 298 g w (by omega) h hg' (by omega) (by omega) (by omega) (by omega)
  have hfin : (fun k => mulC m1 m2 (fun i => f i * ((scl f m1 : Nat) : Rat)) (fun i => g i * ((scl g m2 : Nat) : Rat)) k * (1 / (((scl f m1 : Nat) : Rat) * ((scl g m2 : Nat) : Rat)))) = mulC m1 m2 f g := funext fun k => by
    have e1 : mulC m1 m2 (fun i => f i * ((scl f m1 : Nat) : Rat)) (fun i => g i * ((scl g m2 : Nat) : Rat)) k = mulC m1 m2 f g k * (((scl f m1 : Nat) : Rat) * ((scl g m2 : Nat) : Rat)) := by
      unfold mulC
      rw [sumN_mulR]
      refine sumN_congr m1 fun i _ => ?_
      rw [sumN_mulR]
      exact sumN_congr m2 fun j _ => by grind
    rw [e1]
    have h1 := scl_ne f m1
    have h2 := scl_ne g m2
    refine over_scale ?_
    intro e
    rcases Rat.mul_eq_zero.1 e with h | h
    · exact h1 h
    · exact h2 h
  have hsz : ∀ k, Sz (mulC m1 m2 (fun i => f i * ((scl f m1 : Nat) : Rat)) (fun i => g i * ((scl g m2 : Nat) : Rat)) k) 621 := fun k => by
    rw [← partM_end]
    exact sz_le (sz_partM (kf := 308) (kg := 308) (n1 := m1) hw1 hw2 hm (by omega) (.inr ⟨rfl, rfl⟩)) (by omega)
  obtain ⟨S1, hS1⟩ : ∃ S, ((scl f m1 : Nat) : Rat) = S := ⟨_, rfl⟩
  obtain ⟨S2, hS2⟩ : ∃ S, ((scl g m2 : Nat) : Rat) = S := ⟨_, rfl⟩
  rw [hS1] at hsc1 hcs1
  rw [hS2] at hsc2 hcs2
  simp only [hS1, hS2] at hw1 hw2 hfin hsz
  obtain ⟨F, hF⟩ : ∃ F, (fun i => f i * S1) = F := ⟨_, rfl⟩
  obtain ⟨G, hG⟩ : ∃ G, (fun i => g i * S2) = G := ⟨_, rfl⟩
  have hFi : ∀ i, f i * S1 = F i := fun i => by rw [← hF]
  have hGi : ∀ i, g i * S2 = G i := fun i => by rw [← hG]
  rw [hF] at hcs1 
  rw [hG] at hcs2
  rw [hF, hG] at hfin hsz
  simp only [hFi] at hw1
  simp only [hGi] at hw2
  obtain ⟨H, hH⟩ : ∃ H, mulC m1 m2 f g = H := ⟨_, rfl⟩
  rw [hH] at hfin ⊢
  have HA := Lib.hid (And.intro hcan1 (And.intro hcan2 (And.intro hcs1 (And.intro hcs2 (And.intro hfin hsz)))))
  have HS := Lib.hid (And.intro hw1 (And.intro hw2 (And.intro hsc1 (And.intro hsc2 (And.intro hf' hg')))))
  have HL := Lib.hid (And.intro hl1 hl2)
  clear hl1 hl2 hf hg hm1 hm2 hcan1 hcan2 hf' hg' hsc1 hsc2 hw1 hw2 hcs1 hcs2 hfin hsz hF hG hFi hGi hH hS1 hS2
  go_enter Try.func34, Try.ntmps34
  go_wp2_with fail
  refine (HA.out.1 _ HL.out.1).mono ?_
  rintro e w1 ⟨v1, rfl, hv1, hb1⟩
  obtain ⟨b1, d1, rfl, _⟩ := id hv1
  have H1 := Lib.hid (And.intro hv1 hb1)
  clear hv1 hb1
  go_wp2_with fail
  refine (HA.out.2.1 _ (HL.out.2.below H1.out.2)).mono ?_
  rintro e w2 ⟨v2, rfl, hv2, hb2⟩
  obtain ⟨b2, d2, rfl, _⟩ := id hv2
  have H2 := Lib.hid (And.intro (H1.out.1.below hb2) (And.intro hv2 (below_next' H1.out.2 hb2)))
  clear hv2 hb2
  have q1 : ((m1 : Int) == 0) = false := by simp; omega
  have q2 : ((m2 : Int) == 0) = false := by simp; omega
  have q3 : (m1 : Int) + (m2 : Int) - 1 ≤ 33 := by omega
  go_wp2_with fail
  refine (HA.out.2.2.1 _ b1 d1 (H2.out.1.toA HS.out.2.2.2.2.1)).mono ?_
  rintro e w3 ⟨v3, rfl, hv3, hb3⟩
  obtain ⟨B3, g3, s3, an3, ln3, cn3, ad3, ld3, cd3, rfl, hL3, hR3⟩ := hv3
  have H3 := Lib.hid (And.intro (hL3.lst (cap := m1) (Nat.le_refl _) (by omega)) (And.intro hR3 (And.intro (H2.out.2.1.below hb3) (below_next' H2.out.2.2 hb3))))
  clear hL3 hR3 hb3
  go_wp2_with fail
  refine (HA.out.2.2.2.1 _ b2 d2 (H3.out.2.2.1.toA HS.out.2.2.2.2.2)).mono ?_
  rintro e w4 ⟨v4, rfl, hv4, hb4⟩
  obtain ⟨B4, g4, s4, an4, ln4, cn4, ad4, ld4, cd4, rfl, hL4, hR4⟩ := hv4
  have H4 := Lib.hid (And.intro (H3.out.1.below hb4) (And.intro (H3.out.2.1.below hb4) (And.intro (hL4.lst (cap := m2) (Nat.le_refl _) (by omega)) (And.intro hR4 (below_next' H3.out.2.2.2 hb4)))))
  clear hL4 hR4 hb4
  have hb5 := below_alloc1 w4 (.cells #[.slice (some ⟨g3, 0, none⟩) m1 m1, .bool s3, .slice an3 ln3 cn3, .slice ad3 ld3 cd3] 80)
  have hb6 := below_alloc1 (w4.alloc (.cells #[.slice (some ⟨g3, 0, none⟩) m1 m1, .bool s3, .slice an3 ln3 cn3, .slice ad3 ld3 cd3] 80)) (.cells #[.slice (some ⟨g4, 0, none⟩) m2 m2, .bool s4, .slice an4 ln4 cn4, .slice ad4 ld4 cd4] 80)
  have hB5 := (BoxV.new w4 w4.heap.size 80 (Nat.le_refl _) [.slice (some ⟨g3, 0, none⟩) m1 m1, .bool s3, .slice an3 ln3 cn3, .slice ad3 ld3 cd3]).below hb6
  have hz : (w4.alloc (.cells #[.slice (some ⟨g3, 0, none⟩) m1 m1, .bool s3, .slice an3 ln3 cn3, .slice ad3 ld3 cd3] 80)).heap.size = w4.heap.size + 1 := Array.size_push _
  have hB6 := BoxV.new (w4.alloc (.cells #[.slice (some ⟨g3, 0, none⟩) m1 m1, .bool s3, .slice an3 ln3 cn3, .slice ad3 ld3 cd3] 80)) 0 80 (Nat.zero_le _) [.slice (some ⟨g4, 0, none⟩) m2 m2, .bool s4, .slice an4 ln4 cn4, .slice ad4 ld4 cd4]
  rw [hz] at hB6
  have hbb := below_next' hb5 hb6
  have hk6 : (Ke.b80 (.slice (some ⟨g3, 0, none⟩) m1 m1) m1 F S1).holds ((w4.alloc (.cells #[.slice (some ⟨g3, 0, none⟩) m1 m1, .bool s3, .slice an3 ln3 cn3, .slice ad3 ld3 cd3] 80)).alloc (.cells #[.slice (some ⟨g4, 0, none⟩) m2 m2, .bool s4, .slice an4 ln4 cn4, .slice ad4 ld4 cd4] 80)) (.pointer (some ⟨w4.heap.size, 0, none⟩)) :=
    ⟨_, _, _, _, rfl, hB5.cell 0 (by simp), H4.out.1.below hbb, hB5.cell 1 (by simp), hB5.cell 2 (by simp), hB5.cell 3 (by simp), H4.out.2.1.below hbb⟩
  have hk7 : (Ke.b80 (.slice (some ⟨g4, 0, none⟩) m2 m2) m2 G S2).holds ((w4.alloc (.cells #[.slice (some ⟨g3, 0, none⟩) m1 m1, .bool s3, .slice an3 ln3 cn3, .slice ad3 ld3 cd3] 80)).alloc (.cells #[.slice (some ⟨g4, 0, none⟩) m2 m2, .bool s4, .slice an4 ln4 cn4, .slice ad4 ld4 cd4] 80)) (.pointer (some ⟨w4.heap.size + 1, 0, none⟩)) :=
    ⟨_, _, _, _, rfl, hB6.cell 0 (by simp), H4.out.2.2.1.below hbb, hB6.cell 1 (by simp), hB6.cell 2 (by simp), hB6.cell 3 (by simp), H4.out.2.2.2.1.below hbb⟩
  have H5 := Lib.hid (And.intro hk6 (And.intro hk7 (below_next' H4.out.2.2.2.2 hbb)))
  clear hb5 hb6 hB5 hz hB6 hbb hk6 hk7
  go_wp2_with fail
  refine region_flow_store (Fe (muK ((w4.alloc (.cells #[.slice (some ⟨g3, 0, none⟩) m1 m1, .bool s3, .slice an3 ln3 cn3, .slice ad3 ld3 cd3] 80)).alloc (.cells #[.slice (some ⟨g4, 0, none⟩) m2 m2, .bool s4, .slice an4 ln4 cn4, .slice ad4 ld4 cd4] 80)).heap.size (.slice (some ⟨g3, 0, none⟩) m1 m1) (.slice (some ⟨g4, 0, none⟩) m2 m2) m1 m2 N (308 + 308 + 5) F G S1 S2)) (Fe (oneA 8 N (308 + 308 + 5) (mulC m1 m2 F G) (S1 * S2))) (by rfl) (Fe.mono _) (Fe.mono _) 53 12 [] (by rfl) (by kernel_rfl) (by kernel_rfl) (by kernel_rfl) [6, 7] (by kernel_rfl) ?g0 (Fe.draw _) ?gs (fun i hi => by cases hi) ?gt ?gf
  case g0 =>
    intro t ht
    simp only [List.mem_cons, List.not_mem_nil, or_false] at ht
    rcases ht with rfl | rfl
    · exact H5.out.1
    · exact H5.out.2.1
  case gs =>
    exact ⟨flowB_of (e_fa800 rfl rfl), flowB_of (e_load32 rfl rfl), flowB_of (e_fa800 rfl rfl), flowB_of (e_load32 rfl rfl), flowB_of (e_mulInts rfl rfl rfl hp1 hp2 hm hN HS.out.1 HS.out.2.1 (by omega)), flowB_of (e_fa801 rfl rfl), flowB_of (e_loadEC rfl rfl), flowB_of (e_fa801 rfl rfl), flowB_of (e_loadEC rfl rfl), flowB_of (e_mulCC rfl HS.out.2.2.1 rfl HS.out.2.2.2.1 rfl (by omega)), flowB_of (e_build80a rfl rfl rfl), e_new80 rfl, fun o ho => by cases ho⟩
  case gt =>
    intro a3 w6 hb6 hsz6 hdf6 hfacts hout
    obtain ⟨g8, e8, hB8⟩ : ∃ g, a3.tmps.getD 8 undef = .pointer (some ⟨g, 0, none⟩) ∧ BoxV w6 _ g 80 [.slice none 0 0, .bool false, .slice none 0 0, .slice none 0 0] := hfacts 11 8 (by decide) rfl
    obtain ⟨gP, s, an, ln, cn, ad, ld, cd, ev, hL, hR⟩ : (Ke.scA N (308 + 308 + 5) (mulC m1 m2 F G) (S1 * S2)).holds w6 (a3.tmps.getD 50 undef) := hfacts 10 50 (by decide) rfl
    refine e_store80 (t := 8) (u := 50) rfl e8 hB8 ev ?_
    exact ⟨rfl, (((hb6.setCell (p := ⟨g8, 0, none⟩) hB8.block.1 _).setCell (p := ⟨g8, 1, none⟩) hB8.block.1 _).setCell (p := ⟨g8, 2, none⟩) hB8.block.1 _).setCell (p := ⟨g8, 3, none⟩) hB8.block.1 _, boxA_store hB8 hL hR a3 e8⟩
  intro a3 w6 hb6 hsz6 hdf6 hfacts hout
  obtain ⟨g8, b8, d8, s8, an8, ln8, cn8, ad8, ld8, cd8, e8, x0, x1, x2, x3, hL, hR⟩ : (Ke.b8A N (308 + 308 + 5) (mulC m1 m2 F G) (S1 * S2)).holds w6 (a3.tmps.getD 8 undef) := hfacts 11 8 rfl
  have hszn : a3.tmps.size = 53 := hsz6
  have hdfn : a3.defers = [] := hdf6
  have HF := Lib.hid (And.intro hL (And.intro hR (below_next' H5.out.2.2 hb6)))
  obtain ⟨uu, hu⟩ : ∃ u : Nat → Value, ∀ t, a3.tmps.getD t undef = u t := ⟨_, fun _ => rfl⟩
  have ha := act_eq a3 53 hszn hdfn
  simp only [hu] at ha e8
  have ha' : a3 = ⟨#[uu 0, uu 1, uu 2, uu 3, uu 4, uu 5, uu 6, uu 7, uu 8, uu 9, uu 10, uu 11, uu 12, uu 13, uu 14, uu 15, uu 16, uu 17, uu 18, uu 19, uu 20, uu 21, uu 22, uu 23, uu 24, uu 25, uu 26, uu 27, uu 28, uu 29, uu 30, uu 31, uu 32, uu 33, uu 34, uu 35, uu 36, uu 37, uu 38, uu 39, uu 40, uu 41, uu 42, uu 43, uu 44, uu 45, uu 46, uu 47, uu 48, uu 49, uu 50, uu 51, uu 52], []⟩ := ha
  rw [e8] at ha'
  clear ha hu e8 hszn hdfn hsz6 hdf6 hfacts hout hb6 hL hR
  subst ha'
  go_wp2_with fail
  refine (scanonA_any b8 N d8 (308 + 308 + 5) 600 (mulC m1 m2 F G) (S1 * S2) s8 an8 ln8 cn8 ad8 ld8 cd8 _ (by omega) HF.out.1 HF.out.2.1 (fun i _ => HA.out.2.2.2.2.2 i) (sz_le (sz_mul HS.out.2.2.1 HS.out.2.2.2.1) (by omega)) (by omega)).mono ?_
  rintro e w7 ⟨v7, rfl, hv7, hb7⟩
  rw [HA.out.2.2.2.2.1] at hv7
  have HG := Lib.hid (And.intro hv7 (below_next' HF.out.2.2 hb7))
  clear hv7 hb7
  go_wp2
  go_ret2
  exact ⟨_, rfl, HG.out.1, HG.out.2⟩
end Go.Proofs.Ytdpiclmjdcjajaa

/-
  The walk of the reference's Mul. Condition: numbers of at most 8 limbs.
-/
namespace Go.Proofs.Ytdpiclmjdcjajaa
open Go.RowKit Num

def atG (a : Option Addr) (n cap i k : Nat) (m s : Rat) (f : Nat → Rat) : Tmp → Ke := fun t => ([.lsa (.slice a n cap) n k f, .any, .any, .box 3 m, .any, .box 9000 s, .con (.int .i64 i), .any, .any, .any, .any, .any, .any, .any, .ra 9000 s, .lsa (.slice a n cap) n k f, .con (.int .i64 i), .elA k (f i), .ra k (f i), .rc 3 m, .con (.int .i64 i), .rc 513 (rz m i), .rc 267 (f i * rz m i), .ratC (s + f i * rz m i), .any] : List Ke).getD t .any

set_option maxRecDepth 100000 in
set_option maxHeartbeats 8000000 in
theorem at_gen (a : Option Addr) (n cap k : Nat) (f : Nat → Rat) (m : Rat) (v0 : Value) (w : World) (hn : n ≤ 33) (hl : LstA w (.slice a n cap) n k f) (hf : ∀ i, i < n → Sz (f i) 9) (h0 : RatC w v0 m) (hs : Sz m 3) (hk : k ≤ 300) :
    Calls Try.prog 62 #[.slice a n cap, v0] w (RatP (sumN (fun i => f i * rz m i) n) w) := by
  obtain ⟨S, hS⟩ : ∃ S, (fun k => sumN (fun i => f i * rz m i) k) = S := ⟨_, rfl⟩
  have hp : ∀ i, i < n → Sz (f i * rz m i) 267 := fun i hi => sz_mul (a := 9) (b := 257) (hf i hi) (sz_le (sz_rz hs i (by omega)) (by omega))
  have hsum : ∀ i, i ≤ n → Sz (S i) 9000 := fun i hi => by
    rw [← hS]
    exact sz_le (sz_sumK hp i hi) (by omega)
  have hS0 : S 0 = 0 := by rw [← hS]; rfl
  have hSs : ∀ i, S i + f i * rz m i = S (i + 1) := fun i => by rw [← hS]; rfl
  rw [show sumN (fun i => f i * rz m i) n = S n by rw [← hS]]
  obtain ⟨z1, z2, z3, z4, z5, z6, rfl, _⟩ := id h0
  have hz : ∀ o, (w.alloc o).heap.size = w.heap.size + 1 := fun o => Array.size_push _
  have hb0 := below_alloc1 w (.cells #[.bool (decide (m.num < 0)), .slice z1 z2 z3, .slice z4 z5 z6] 24)
  have hBn := BoxV.new w w.heap.size 24 (Nat.le_refl _) [.bool (decide (m.num < 0)), .slice z1 z2 z3, .slice z4 z5 z6]
  have hb1 := below_alloc1 (w.alloc (.cells #[.bool (decide (m.num < 0)), .slice z1 z2 z3, .slice z4 z5 z6] 24)) (.cells #[.bool false, .slice none 0 0, .slice none 0 0] 24)
  have hBz := BoxV.new (w.alloc (.cells #[.bool (decide (m.num < 0)), .slice z1 z2 z3, .slice z4 z5 z6] 24)) w.heap.size 24 (by rw [hz]; exact Nat.le_succ _) [.bool false, .slice none 0 0, .slice none 0 0]
  rw [show (w.alloc (.cells #[.bool (decide (m.num < 0)), .slice z1 z2 z3, .slice z4 z5 z6] 24)).heap.size = w.heap.size + 1 from hz _] at hBz
  have HA := Lib.hid (show RtB w m _ _ _ _ from ⟨hBn.below hb1, (h0.below hb0).below hb1, hBz, below_next' hb0 hb1⟩)
  have HS := Lib.hid (And.intro hs (And.intro hsum (And.intro hl (And.intro hSs (And.intro hS0 hp)))))
  clear hb0 hBn hb1 hBz h0 hs hz hsum hl hSs hS hS0 hp hf
  go_enter Try.func62, Try.ntmps62
  go_wp2_with fail
  refine (refFromInt_any 0 _ (by omega) (by omega)).mono ?_
  rintro e w1 ⟨v, rfl, hv, hb1⟩
  rw [quo_zero] at hv
  have H1 := Lib.hid (And.intro (HA.out.below hb1) hv)
  have hlt := H1.out.1.bz.block.2
  obtain ⟨y1, y2, y3, y4, y5, y6, rfl, _⟩ := hv
  clear hb1
  go_wp2
  have hb2 := below_alloc1 w1 (.cells #[.bool (decide ((0 : Rat).num < 0)), .slice y1 y2 y3, .slice y4 y5 y6] 24)
  have hB2 := BoxV.new w1 w.heap.size 24 (by omega) [.bool (decide ((0 : Rat).num < 0)), .slice y1 y2 y3, .slice y4 y5 y6]
  have HI := Lib.hid (And.intro (H1.out.1.below hb2) (show RtO w w1.heap.size (S 0) _ by rw [HS.out.2.2.2.2.1]; exact ⟨y1, y2, y3, y4, y5, y6, hB2, H1.out.2.below hb2⟩))
  clear hb2 hB2
  go_loopw [6] (fun i wr => ∃ q : Nat, i = .int .i64 q ∧ q ≤ n ∧ RtB w m (.bool (decide (m.num < 0))) (.slice z1 z2 z3) (.slice z4 z5 z6) wr ∧ RtO w w1.heap.size (S q) wr) (fun i _ => n - (intOf i).toNat)
  case atStart => exact ⟨0, rfl, Nat.zero_le _, HI.out⟩
  case round =>
    obtain ⟨q, rfl, hq, hT, an, ln, cn, ad, ld, cd, hBs, hC⟩ := hrel
    by_cases hlt2 : q < n
    · have HL := Lib.hid hlt2
      have hbx := boxC_of hBs hC (HS.out.2.1 q (by omega))
      have hbn := boxC_of hT.bn hT.cn HS.out.1
      have HR := Lib.hid (And.intro hbn (And.intro hbx (And.intro hBs (And.intro hT (HS.out.2.2.1.below hT.bel)))))
      clear hbx hbn hBs hT hC
      go_wp2_with fail
      refine region_flow_tail (Fe (atG a n cap q k m (S q) f)) (by rfl) (Fe.mono _) 25 10 [] (by rfl) (by kernel_rfl) (by kernel_rfl) (by kernel_rfl) (by kernel_rfl) (fun t ht => by cases ht) [0, 3, 5, 6] (by kernel_rfl) ?g0 (Fe.draw _) ?gs ?gf
      case g0 =>
        intro t ht
        simp only [List.mem_cons, List.not_mem_nil, or_false] at ht
        rcases ht with rfl | rfl | rfl | rfl
        · exact ⟨rfl, HR.out.2.2.2.2⟩
        · exact HR.out.1
        · exact HR.out.2.1
        · rfl
      case gs =>
        exact ⟨flowN_of (e_loadC rfl rfl) (by decide), flowN_of (e_move rfl) (by decide), flowN_of (e_move rfl) (by decide), flowN_of (e_indexA rfl rfl rfl hlt2) (by decide), flowN_of (e_loadEA rfl rfl) (by decide), flowN_of (e_loadR rfl rfl) (by decide), flowN_of (e_move rfl) (by decide), flowN_of (e_ratio rfl rfl rfl (by omega)) (by decide), flowN_of (e_mul4 rfl rfl rfl (HS.out.2.2.2.2.2 q hlt2) (by omega)) (by decide), flowN_of (e_add4 rfl rfl rfl (by omega)) (by decide), trivial⟩
      intro a3 w3 hb3 hsz3 hdf3 hfacts hout _
      have f23 : RatC w3 (a3.tmps.getD 23 undef) (S q + f q * rz m q) := hfacts 9 23 (by decide) rfl
      rw [HS.out.2.2.2.1] at f23
      have e0 : a3.tmps.getD 0 undef = .slice a n cap := hout 0 (free_of (by kernel_rfl))
      have e1 : a3.tmps.getD 1 undef = .agg #[.bool (decide (m.num < 0)), .slice z1 z2 z3, .slice z4 z5 z6] := hout 1 (free_of (by kernel_rfl))
      have e2 : a3.tmps.getD 2 undef = undef := hout 2 (free_of (by kernel_rfl))
      have e3 : a3.tmps.getD 3 undef = .pointer (some ⟨w.heap.size, 0, none⟩) := hout 3 (free_of (by kernel_rfl))
      have e4 : a3.tmps.getD 4 undef = .pointer (some ⟨w.heap.size + 1, 0, none⟩) := hout 4 (free_of (by kernel_rfl))
      have e5 : a3.tmps.getD 5 undef = .pointer (some ⟨w1.heap.size, 0, none⟩) := hout 5 (free_of (by kernel_rfl))
      have e6 : a3.tmps.getD 6 undef = .int .i64 q := hout 6 (free_of (by kernel_rfl))
      have e7 : a3.tmps.getD 7 undef = .agg #[.bool (decide ((0 : Rat).num < 0)), .slice y1 y2 y3, .slice y4 y5 y6] := hout 7 (free_of (by kernel_rfl))
      have e24 : a3.tmps.getD 24 undef = undef := hout 24 (free_of (by kernel_rfl))
      have hszn : a3.tmps.size = 25 := hsz3
      have hdfn : a3.defers = [] := hdf3
      have hB3 := HR.out.2.2.1.below hb3
      change runFrom _ _ _ 1 10 a3 w3
      simp only [runFrom]
      refine e_store (t := 5) (u := 23) rfl e5 hB3 f23 fun an' ln' cn' ad' ld' cd' hR => ?_
      have HN := Lib.hid (And.intro ((HR.out.2.2.2.1.below hb3).set (v0 := .bool (decide ((S (q + 1)).num < 0))) (v1 := .slice an' ln' cn') (v2 := .slice ad' ld' cd') hB3 (noLimb_rat _ _ _ _ _ _ _) hlt) (RtO.next hB3 (noLimb_rat _ _ _ _ _ _ _) hR))
      generalize (((w3.setCell ⟨w1.heap.size, 0, none⟩ (.bool (decide ((S (q + 1)).num < 0)))).setCell ⟨w1.heap.size, 1, none⟩ (.slice an' ln' cn')).setCell ⟨w1.heap.size, 2, none⟩ (.slice ad' ld' cd')) = w4 at HN ⊢
      obtain ⟨uu, hu⟩ : ∃ u : Nat → Value, ∀ t, a3.tmps.getD t undef = u t := ⟨_, fun _ => rfl⟩
      have ha := act_eq a3 25 hszn hdfn
      simp only [hu] at ha e0 e1 e2 e3 e4 e5 e6 e7 e24
      have ha' : a3 = ⟨#[uu 0, uu 1, uu 2, uu 3, uu 4, uu 5, uu 6, uu 7, uu 8, uu 9, uu 10, uu 11, uu 12, uu 13, uu 14, uu 15, uu 16, uu 17, uu 18, uu 19, uu 20, uu 21, uu 22, uu 23, uu 24], []⟩ := ha
      rw [e0, e1, e2, e3, e4, e5, e6, e7, e24] at ha'
      clear ha hu e0 e1 e2 e3 e4 e5 e6 e7 e24 hfacts hout hszn hdfn hsz3 hdf3 f23 hB3 hR hb3
      subst ha'
      go_wp2
      go_roundw
      case rel => exact ⟨q + 1, by go_num, by have := HL.out; omega, HN.out⟩
      case measure => have := HL.out; simp [intOf]; omega
    · obtain ⟨⟨k0, k1, k2⟩, i0, i1, i2⟩ := hBs.three
      obtain ⟨⟨x0, x1, x2⟩, j0, j1, j2⟩ := hT.bz.three
      have HF := Lib.hid (And.intro hT hC)
      have hqn : q = n := by omega
      subst hqn
      clear hT hC hBs hlt2
      go_wp2
      obtain ⟨⟨x0, x1, x2⟩, _⟩ := (HF.out.1.bz.store3 (.bool (decide ((S q).num < 0))) (.slice an ln cn) (.slice ad ld cd)).three
      exact bodyPost_ret (v := .agg #[.bool (decide ((S q).num < 0)), .slice an ln cn, .slice ad ld cd]) (by simp [results, Try.results62, go_sem, x0, x1, x2]) rfl ⟨_, rfl, HF.out.2.other HF.out.1.bz noLimb_nil3 (grown_set3 _ _ _ _ _), below_set3 HF.out.1.bel HF.out.1.bz.block.1 _ _ _⟩

section
variable {κ : Tmp → Ke} {G : Nat → Option Tmp} {d s t u c : Tmp} {ty : TypeId} {pos : String} {es : Array Edge} {k k' B n m K : Nat} {p q x : Rat} {f f' : Nat → Rat}
theorem c2_62 (a : Act) (d : Option Tmp) (ty : TypeId) (pos : String) (es : Array Edge) (t u : Tmp) (w : World) :
    Sem.run Try.prog (execOp a.eval ⟨d, .call ⟨.value (.func 62), #[.tmp t, .tmp u], #[32, 24]⟩, ty, pos, es, none⟩) w = .ok (.enter 62 #[a.tmps.getD t undef, a.tmps.getD u undef]) w := by go_simp
set_option maxRecDepth 100000 in
theorem e_at62 {a' : Option Addr} {cap : Nat} (ht : κ t = .lsa (.slice a' n cap) n k f) (hu : κ u = .rc 3 x) (hd : κ d = .rc K q) (hq : sumN (fun i => f i * rz x i) n = q) (hs : Sz q K) (hn : n ≤ 33) (hf : ∀ i, i < n → Sz (f i) 9) (hk : k ≤ 300) :
    FlowStep Try.prog (Fe κ) G ⟨some d, .call ⟨.value (.func 62), #[.tmp t, .tmp u], #[32, 24]⟩, ty, pos, es, none⟩ := by
  refine e_step rfl fun a w Q hf' => ?_
  have h := hf' t (by simp [Op.operands, Call.operands])
  have h' := hf' u (by simp [Op.operands, Call.operands])
  rw [ht] at h
  rw [hu] at h'
  obtain ⟨e1, h1⟩ := (show a.tmps.getD t undef = .slice a' n cap ∧ LstA w _ n k f from h)
  obtain ⟨h2, h3⟩ := (show RatC w _ x ∧ Sz x 3 from h')
  rw [e1] at h1
  unfold Oper.wp
  rw [c2_62, e1, Oper.upon_enter]
  refine (at_gen a' n cap k f x _ w hn h1 hf h2 h3 hk).mono ?_
  rintro e w' ⟨v, rfl, hv, hb⟩
  rw [hq] at hv
  exact ⟨_, rfl, hb, fun d' hd' => by cases hd'; rw [hd]; exact ⟨hv, hs⟩⟩
theorem e_mul45r (ht : κ t = .rc k p) (hu : κ u = .rc k' q) (hd : κ d = .ratC (p * q)) (hk : k + k' ≤ 20000) :
    FlowStep Try.prog (Fe κ) G ⟨some d, .call ⟨.value (.func 45), #[.tmp t, .tmp u], #[24, 24]⟩, ty, pos, es, none⟩ :=
  e_c2 (fun a w => c2_45 _ _ _ _ _ _ _ _) fun w x y hx hy => by
    rw [ht] at hx
    rw [hu] at hy
    obtain ⟨hx1, hx2⟩ := (show RatC w x p ∧ Sz p k from hx)
    obtain ⟨hy1, hy2⟩ := (show RatC w y q ∧ Sz q k' from hy)
    refine (refMul_a (k := k + k') ((hx1.a hx2).le (by omega)) ((hy1.a hy2).le (by omega)) hk).mono ?_
    rintro e w' ⟨v, rfl, hv, hb⟩
    exact ⟨v, rfl, by rw [hd]; exact hv, hb⟩
end

/-! The values of the product -/
def vM (f g : Nat → Rat) (m1 m2 : Nat) : Nat → Rat := fun n => ev f m1 n * ev g m2 n
theorem at_ev (f : Nat → Rat) (m n : Nat) : sumN (fun i => f i * rz (quo (n : Int) 1) i) m = ev f m n := sumN_congr m fun i _ => by
  show _ = f i * chQ (n : Int) i
  unfold chQ
  rw [if_neg (by omega)]
theorem wh_evN {f : Nat → Rat} {m : Nat} (hf : ∀ i, i < m → Sz (f i) 9) (hm : m ≤ 33) {n : Nat} (hn : n ≤ 33) : Wh (scl f m * fac 33) (pw 338) (ev f m n) := by
  rw [← evR_ev]
  exact wh_evR hf hm (x := (n : Int)) (by omega)
theorem sz_evN {f : Nat → Rat} {m : Nat} (hf : ∀ i, i < m → Sz (f i) 9) (hm : m ≤ 33) {n : Nat} (hn : n ≤ 33) : Sz (ev f m n) 339 :=
  (wh_evN hf hm hn).sz (Nat.mul_pos (scl_pos f m) (fac_pos 33)) (Nat.lt_of_lt_of_le (den_lt hf hm) (pw_le (by omega))) (pw_lt (by omega)) (by omega)
theorem sz_difsM {f g : Nat → Rat} {m1 m2 N : Nat} (hf : ∀ i, i < m1 → Sz (f i) 9) (hg : ∀ i, i < m2 → Sz (g i) 9) (h1 : m1 ≤ 33) (h2 : m2 ≤ 33) (hN : N ≤ 33) {j i : Nat} (h : j + i < N) : Sz (difs (vM f g m1 m2) j i) 679 := by
  refine sz_difs (D := (scl f m1 * fac 33) * (scl g m2 * fac 33)) (k := 676) (fun n hn => ?_) (Nat.mul_pos (Nat.mul_pos (scl_pos f m1) (fac_pos 33)) (Nat.mul_pos (scl_pos g m2) (fac_pos 33))) ?_ hN h
  · have := (wh_evN hf h1 (n := n) (by omega)).mul (wh_evN hg h2 (n := n) (by omega))
    rw [← pw_add] at this
    exact this
  · have := Nat.mul_lt_mul_of_lt_of_lt (den_lt hf h1) (den_lt hg h2)
    rw [← pw_add] at this
    exact Nat.lt_of_lt_of_le this (pw_le (by omega))
def rmK (u v v6 : Value) (m1 m2 : Nat) (f g : Nat → Rat) (x p q : Rat) : Tmp → Ke := fun t => ([.lsa u m1 9 f, .lsa v m2 9 g, .any, .any, .any, .any, .con v6, .any, .box 3 x, .any, .any, .any, .any, .any, .any, .any, .any, .any, .any, .any, .any, .any, .any, .any, .any, .any, .any, .any, .any, .any, .any, .any, .any, .any, .any, .any, .any, .any, .any, .any, .any, .any, .any, .any, .any, .any, .any, .con v6, .lsa u m1 9 f, .rc 3 x, .rc 339 p, .lsa v m2 9 g, .rc 3 x, .rc 339 q, .ratC (p * q), .one (p * q)] : List Ke).getD t .any

set_option maxRecDepth 100000 in
set_option maxHeartbeats 8000000 in
theorem refMul_in (a1 a2 : Option Addr) (n1 n2 c1 c2 m1 m2 N : Nat) (f g : Nat → Rat) (w : World) (hn1 : n1 ≤ 33) (hn2 : n2 ≤ 33) (hl1 : LstA w (.slice a1 n1 c1) n1 8 f) (hl2 : LstA w (.slice a2 n2 c2) n2 8 g) (hf : ∀ i, i < n1 → Sz (f i) 9) (hg : ∀ i, i < n2 → Sz (g i) 9)
    (hm1 : trimN f n1 = m1) (hm2 : trimN g n2 = m2) (hp1 : 1 ≤ m1) (hp2 : 1 ≤ m2) (hm : m1 + m2 ≤ 34) (hN : N + 1 = m1 + m2) :
    Calls Try.prog 35 #[.slice a1 n1 c1, .slice a2 n2 c2] w (ListB (trimN (mulC m1 m2 f g) N) (mulC m1 m2 f g) true w) := by
  have t1 : m1 ≤ n1 := by rw [← hm1]; exact trimN_le f n1
  have t2 : m2 ≤ n2 := by rw [← hm2]; exact trimN_le g n2
  have hcan1 := fun w h => refCanonical_list a1 n1 c1 8 f w h (by omega) (by omega)
  have hcan2 := fun w h => refCanonical_list a2 n2 c2 8 g w h (by omega) (by omega)
  rw [hm1] at hcan1
  rw [hm2] at hcan2
  have hf' : ∀ i, i < m1 → Sz (f i) 9 := fun i hi => hf i (by omega)
  have hg' : ∀ i, i < m2 → Sz (g i) 9 := fun i hi => hg i (by omega)
  have hN33 : N ≤ 33 := by omega
  have hsV : ∀ j i, j + i < N → Sz (difs (vM f g m1 m2) j i) 679 := fun j i h => sz_difsM hf' hg' (by omega) (by omega) hN33 h
  have hse : ∀ n, n ≤ 33 → Sz (ev f m1 n) 339 ∧ Sz (ev g m2 n) 339 := fun n hn => ⟨sz_evN hf' (by omega) hn, sz_evN hg' (by omega) hn⟩
  have hdif : ∀ k, k < N → difs (vM f g m1 m2) k 0 = mulC m1 m2 f g k := fun k hk => mul_difs m1 m2 f g hm k (by omega)
  have hvM : ∀ n, ev f m1 n * ev g m2 n = vM f g m1 m2 n := fun n => rfl
  have htr : trimN (fun k => difs (vM f g m1 m2) k 0) N = trimN (mulC m1 m2 f g) N := trimN_congr N hdif
  have htN := trimN_le (mulC m1 m2 f g) N
  obtain ⟨V, hV⟩ : ∃ V, vM f g m1 m2 = V := ⟨_, rfl⟩
  obtain ⟨H, hH⟩ : ∃ H, mulC m1 m2 f g = H := ⟨_, rfl⟩
  rw [hV] at hsV htr
  simp only [hV] at hdif hvM
  rw [hH] at htr htN ⊢
  simp only [hH] at hdif
  have HA := Lib.hid (And.intro hcan1 (And.intro hcan2 (And.intro hsV (And.intro hse (And.intro hdif (And.intro hvM (And.intro htr htN)))))))
  have HS := Lib.hid (And.intro hf' hg')
  have HL := Lib.hid (And.intro hl1 hl2)
  clear hl1 hl2 hf hg hm1 hm2 hcan1 hcan2 hf' hg' hsV hse hdif hvM htr htN hV hH
  go_enter Try.func35, Try.ntmps35
  go_wp2_with fail
  refine (HA.out.1 _ HL.out.1).mono ?_
  rintro e w1 ⟨v1, rfl, hv1, hb1⟩
  obtain ⟨b1, d1, rfl, _⟩ := id hv1
  have H1 := Lib.hid (And.intro hv1 hb1)
  clear hv1 hb1
  go_wp2_with fail
  refine (HA.out.2.1 _ (HL.out.2.below H1.out.2)).mono ?_
  rintro e w2 ⟨v2, rfl, hv2, hb2⟩
  obtain ⟨b2, d2, rfl, _⟩ := id hv2
  have H2 := Lib.hid (And.intro ((H1.out.1.below hb2).toA HS.out.1) (And.intro (hv2.toA HS.out.2) (below_next' H1.out.2 hb2)))
  clear hv2 hb2
  have q1 : ((m1 : Int) == 0) = false := by simp; omega
  have q2 : ((m2 : Int) == 0) = false := by simp; omega
  have q3 : (m1 : Int) + (m2 : Int) ≤ 34 := by omega
  have hNi : (m1 : Int) + (m2 : Int) - 1 = (N : Int) := by omega
  go_wp2_with fail
  go_loopw [6, 7] (fun v x wr => ∃ q : Nat, q ≤ N ∧ x = .int .i64 q ∧ OutR w2.heap.size q V v wr ∧ Below w2.heap.size w2 wr) (fun _ x _ => N - (intOf x).toNat)
  case atStart => exact ⟨0, Nat.zero_le _, rfl, OutR.nil _ _ _, Below.refl _ _⟩
  case round =>
    obtain ⟨q, hq, rfl, hO, hbel⟩ := hrel
    by_cases hlt : q < N
    · have hqi : (q : Int) < (N : Int) := by omega
      have HR := Lib.hid (And.intro hO hbel)
      clear hO hbel
      go_wp2_with fail
      refine (refFromInt_any (q : Int) _ (by omega) (by omega)).mono ?_
      rintro e w3 ⟨v3, rfl, hv3, hb3⟩
      have hv3' := hv3
      obtain ⟨y1, y2, y3, y4, y5, y6, rfl, _⟩ := hv3
      obtain ⟨s, hs⟩ : ∃ s, decide ((quo (q : Int) 1).num < 0) = s := ⟨_, rfl⟩
      rw [hs] at hv3' ⊢
      have hb4 := below_alloc1 w3 (.cells #[.bool s, .slice y1 y2 y3, .slice y4 y5 y6] 24)
      have hB4 := BoxV.new w3 w3.heap.size 24 (Nat.le_refl _) [.bool s, .slice y1 y2 y3, .slice y4 y5 y6]
      have hbb := below_next' hb3 hb4
      have hbx := boxC_of hB4 (hv3'.below hb4) (sz_int (n := (q : Int)) (by omega) (by omega))
      have hb24 := below_next' HR.out.2 hbb
      have H4 := Lib.hid (And.intro (H2.out.1.below hb24) (And.intro (H2.out.2.1.below hb24) (And.intro hbx (And.intro (HR.out.1.below hbb) hb24))))
      clear hv3' hb3 hb4 hB4 hbb hbx hb24 hs
      go_wp2_with fail
      refine region_flow_tailK (Fe (rmK (.slice b1 m1 d1) (.slice b2 m2 d2) u6 m1 m2 f g (quo (q : Int) 1) (ev f m1 q) (ev g m2 q))) (by rfl) (Fe.mono _) 59 9 [] (by rfl) (by kernel_rfl) (by kernel_rfl) (by kernel_rfl) (by kernel_rfl) (fun t ht => by cases ht) [0, 1, 6, 8] (by kernel_rfl) ?g0 (Fe.draw _) ?gs ?gf
      case g0 =>
        intro t ht
        simp only [List.mem_cons, List.not_mem_nil, or_false] at ht
        rcases ht with rfl | rfl | rfl | rfl
        · exact ⟨rfl, H4.out.1⟩
        · exact ⟨rfl, H4.out.2.1⟩
        · rfl
        · exact H4.out.2.2.1
      case gs =>
        exact ⟨flowN_of (e_move rfl) (by decide), flowN_of (e_move rfl) (by decide), flowN_of (e_loadR rfl rfl) (by decide), flowN_of (e_at62 rfl rfl rfl (at_ev f m1 q) (HA.out.2.2.2.1 q (by omega)).1 (by omega) HS.out.1 (by omega)) (by decide), flowN_of (e_move rfl) (by decide), flowN_of (e_loadR rfl rfl) (by decide), flowN_of (e_at62 rfl rfl rfl (at_ev g m2 q) (HA.out.2.2.2.1 q (by omega)).2 (by omega) HS.out.2 (by omega)) (by decide), flowN_of (e_mul45r rfl rfl rfl (by omega)) (by decide), flowN_of (e_build1 rfl rfl) (by decide), trivial⟩
      intro a3 w6 hb6 hsz6 hdf6 hfacts hout _
      have f47 : a3.tmps.getD 47 undef = u6 := hfacts 0 47 (by decide) rfl
      have f55 : (Ke.one (ev f m1 q * ev g m2 q)).holds w6 (a3.tmps.getD 55 undef) := hfacts 8 55 (by decide) rfl
      rw [HA.out.2.2.2.2.2.1] at f55
      have hszn : a3.tmps.size = 59 := hsz6
      have hdfn : a3.defers = [] := hdf6
      change runFrom _ _ _ 2 9 a3 w6
      refine tail_append (d := 56) (e := 6) rfl rfl (by rw [hszn]; decide) (by rw [hszn]; decide) f47 (H4.out.2.2.2.1.below hb6) f55 (by omega) (below_next' H4.out.2.2.2.2 hb6).size ?_
      intro v5 w7 a4 hO7 hgr7 hsz7 hsza hdfa f6 hoth
      have hszn4 : a4.tmps.size = 59 := hsza.trans hszn
      have hdfn4 : a4.defers = [] := hdfa.trans hdfn
      have e0 : a4.tmps.getD 0 undef = .slice b1 m1 d1 := (hoth 0 (by decide) (by decide)).trans (hout 0 (free_ofK (by kernel_rfl)))
      have e1 : a4.tmps.getD 1 undef = .slice b2 m2 d2 := (hoth 1 (by decide) (by decide)).trans (hout 1 (free_ofK (by kernel_rfl)))
      have e2 : a4.tmps.getD 2 undef = undef := (hoth 2 (by decide) (by decide)).trans (hout 2 (free_ofK (by kernel_rfl)))
      have e3 : a4.tmps.getD 3 undef = undef := (hoth 3 (by decide) (by decide)).trans (hout 3 (free_ofK (by kernel_rfl)))
      have e4 : a4.tmps.getD 4 undef = .slice none 0 0 := (hoth 4 (by decide) (by decide)).trans (hout 4 (free_ofK (by kernel_rfl)))
      have e5 : a4.tmps.getD 5 undef = .bool false := (hoth 5 (by decide) (by decide)).trans (hout 5 (free_ofK (by kernel_rfl)))
      have e7 : a4.tmps.getD 7 undef = .int .i64 q := (hoth 7 (by decide) (by decide)).trans (hout 7 (free_ofK (by kernel_rfl)))
      have e9 : a4.tmps.getD 9 undef = .slice a1 n1 c1 := (hoth 9 (by decide) (by decide)).trans (hout 9 (free_ofK (by kernel_rfl)))
      have e10 : a4.tmps.getD 10 undef = .int .i64 n1 := (hoth 10 (by decide) (by decide)).trans (hout 10 (free_ofK (by kernel_rfl)))
      have e11 : a4.tmps.getD 11 undef = .bool (decide (33 < (n1 : Int))) := (hoth 11 (by decide) (by decide)).trans (hout 11 (free_ofK (by kernel_rfl)))
      have e12 : a4.tmps.getD 12 undef = .bool (decide (33 < (n1 : Int))) := (hoth 12 (by decide) (by decide)).trans (hout 12 (free_ofK (by kernel_rfl)))
      have e13 : a4.tmps.getD 13 undef = .slice a2 n2 c2 := (hoth 13 (by decide) (by decide)).trans (hout 13 (free_ofK (by kernel_rfl)))
      have e14 : a4.tmps.getD 14 undef = .int .i64 n2 := (hoth 14 (by decide) (by decide)).trans (hout 14 (free_ofK (by kernel_rfl)))
      have e15 : a4.tmps.getD 15 undef = .bool (decide (33 < (n2 : Int))) := (hoth 15 (by decide) (by decide)).trans (hout 15 (free_ofK (by kernel_rfl)))
      have e16 : a4.tmps.getD 16 undef = .bool (decide (33 < (n1 : Int)) || decide (33 < (n2 : Int))) := (hoth 16 (by decide) (by decide)).trans (hout 16 (free_ofK (by kernel_rfl)))
      have e17 : a4.tmps.getD 17 undef = .slice a1 n1 c1 := (hoth 17 (by decide) (by decide)).trans (hout 17 (free_ofK (by kernel_rfl)))
      have e18 : a4.tmps.getD 18 undef = .slice b1 m1 d1 := (hoth 18 (by decide) (by decide)).trans (hout 18 (free_ofK (by kernel_rfl)))
      have e19 : a4.tmps.getD 19 undef = .slice a2 n2 c2 := (hoth 19 (by decide) (by decide)).trans (hout 19 (free_ofK (by kernel_rfl)))
      have e20 : a4.tmps.getD 20 undef = .slice b2 m2 d2 := (hoth 20 (by decide) (by decide)).trans (hout 20 (free_ofK (by kernel_rfl)))
      have e21 : a4.tmps.getD 21 undef = .slice b1 m1 d1 := (hoth 21 (by decide) (by decide)).trans (hout 21 (free_ofK (by kernel_rfl)))
      have e22 : a4.tmps.getD 22 undef = .int .i64 m1 := (hoth 22 (by decide) (by decide)).trans (hout 22 (free_ofK (by kernel_rfl)))
      have e23 : a4.tmps.getD 23 undef = .bool false := (hoth 23 (by decide) (by decide)).trans (hout 23 (free_ofK (by kernel_rfl)))
      have e24 : a4.tmps.getD 24 undef = .bool false := (hoth 24 (by decide) (by decide)).trans (hout 24 (free_ofK (by kernel_rfl)))
      have e25 : a4.tmps.getD 25 undef = .slice b2 m2 d2 := (hoth 25 (by decide) (by decide)).trans (hout 25 (free_ofK (by kernel_rfl)))
      have e26 : a4.tmps.getD 26 undef = .int .i64 m2 := (hoth 26 (by decide) (by decide)).trans (hout 26 (free_ofK (by kernel_rfl)))
      have e27 : a4.tmps.getD 27 undef = .bool false := (hoth 27 (by decide) (by decide)).trans (hout 27 (free_ofK (by kernel_rfl)))
      have e28 : a4.tmps.getD 28 undef = .bool false := (hoth 28 (by decide) (by decide)).trans (hout 28 (free_ofK (by kernel_rfl)))
      have e29 : a4.tmps.getD 29 undef = .slice b1 m1 d1 := (hoth 29 (by decide) (by decide)).trans (hout 29 (free_ofK (by kernel_rfl)))
      have e30 : a4.tmps.getD 30 undef = .int .i64 m1 := (hoth 30 (by decide) (by decide)).trans (hout 30 (free_ofK (by kernel_rfl)))
      have e31 : a4.tmps.getD 31 undef = .slice b2 m2 d2 := (hoth 31 (by decide) (by decide)).trans (hout 31 (free_ofK (by kernel_rfl)))
      have e32 : a4.tmps.getD 32 undef = .int .i64 m2 := (hoth 32 (by decide) (by decide)).trans (hout 32 (free_ofK (by kernel_rfl)))
      have e33 : a4.tmps.getD 33 undef = .int .i64 ((m1 : Int) + (m2 : Int)) := (hoth 33 (by decide) (by decide)).trans (hout 33 (free_ofK (by kernel_rfl)))
      have e34 : a4.tmps.getD 34 undef = .bool (decide (34 < (m1 : Int) + (m2 : Int))) := (hoth 34 (by decide) (by decide)).trans (hout 34 (free_ofK (by kernel_rfl)))
      have e57 : a4.tmps.getD 57 undef = undef := (hoth 57 (by decide) (by decide)).trans (hout 57 (free_ofK (by kernel_rfl)))
      have e58 : a4.tmps.getD 58 undef = undef := (hoth 58 (by decide) (by decide)).trans (hout 58 (free_ofK (by kernel_rfl)))
      have hbl7 := (below_next' H4.out.2.2.2.2 hb6).grown hgr7 (below_next' H4.out.2.2.2.2 hb6).size (fun k hk => ((H4.out.2.2.2.1.below hb6).own k hk).1)
      have HN := Lib.hid (And.intro hO7 hbl7)
      obtain ⟨uu, hu⟩ : ∃ u : Nat → Value, ∀ t, a4.tmps.getD t undef = u t := ⟨_, fun _ => rfl⟩
      have ha := act_eq a4 59 hszn4 hdfn4
      simp only [hu] at ha e0 e1 e2 e3 e4 e5 e7 e9 e10 e11 e12 e13 e14 e15 e16 e17 e18 e19 e20 e21 e22 e23 e24 e25 e26 e27 e28 e29 e30 e31 e32 e33 e34 e57 e58 f6
      have ha' : a4 = ⟨#[uu 0, uu 1, uu 2, uu 3, uu 4, uu 5, uu 6, uu 7, uu 8, uu 9, uu 10, uu 11, uu 12, uu 13, uu 14, uu 15, uu 16, uu 17, uu 18, uu 19, uu 20, uu 21, uu 22, uu 23, uu 24, uu 25, uu 26, uu 27, uu 28, uu 29, uu 30, uu 31, uu 32, uu 33, uu 34, uu 35, uu 36, uu 37, uu 38, uu 39, uu 40, uu 41, uu 42, uu 43, uu 44, uu 45, uu 46, uu 47, uu 48, uu 49, uu 50, uu 51, uu 52, uu 53, uu 54, uu 55, uu 56, uu 57, uu 58], []⟩ := ha
      rw [e0, e1, e2, e3, e4, e5, e7, e9, e10, e11, e12, e13, e14, e15, e16, e17, e18, e19, e20, e21, e22, e23, e24, e25, e26, e27, e28, e29, e30, e31, e32, e33, e34, e57, e58, f6] at ha'
      clear ha hu e0 e1 e2 e3 e4 e5 e7 e9 e10 e11 e12 e13 e14 e15 e16 e17 e18 e19 e20 e21 e22 e23 e24 e25 e26 e27 e28 e29 e30 e31 e32 e33 e34 e57 e58 f6 f47 f55 hfacts hout hoth hszn hdfn hszn4 hdfn4 hsza hdfa hsz6 hdf6 hb6 hO7 hgr7 hsz7 hbl7
      subst ha'
      go_wp2
      go_roundw
      case rel => exact ⟨q + 1, by omega, by go_num, HN.out⟩
      case measure => simp [intOf]; omega
    · obtain rfl : q = N := by omega
      obtain ⟨va, vc, rfl⟩ : ∃ va vc, u6 = .slice va q vc := by
        obtain ⟨va, vc, e, _⟩ := hO.lst
        exact ⟨va, vc, e⟩
      have HR := Lib.hid (And.intro (hO.lst.toA (k := 679) fun i hi => HA.out.2.2.1 0 i (by omega)) (below_next' H2.out.2.2 hbel))
      clear hO hbel hlt
      go_wp2_with fail
      refine (differences_any va q vc 679 V _ (by omega) HR.out.1 HA.out.2.2.1 (by omega)).mono ?_
      rintro e w5 ⟨v5, rfl, hv5, hb5⟩
      rw [HA.out.2.2.2.2.2.2.1] at hv5
      have hv6 := hv5.congr fun i hi => HA.out.2.2.2.2.1 i (Nat.lt_of_lt_of_le hi HA.out.2.2.2.2.2.2.2)
      have HF := Lib.hid (And.intro hv6 (below_next' HR.out.2 hb5))
      clear hv5 hv6 hb5
      go_wp2
      go_ret2
      exact ⟨_, rfl, HF.out.1, HF.out.2⟩

set_option maxRecDepth 100000 in
theorem mul_long (a1 a2 : Option Addr) (n1 n2 c1 c2 : Nat) (F : Nat → Rat) (w : World) (m1 : n1 ≤ 9223372036854775807) (m2 : n2 ≤ 9223372036854775807) (h : 33 < n1 ∨ 33 < n2) : Calls Try.prog 34 #[.slice a1 n1 c1, .slice a2 n2 c2] w (ListB 0 F false w) ∧ Calls Try.prog 35 #[.slice a1 n1 c1, .slice a2 n2 c2] w (ListB 0 F false w) := by
  by_cases h1 : 33 < n1
  · clear h
    constructor
    · go_enter Try.func34, Try.ntmps34
      go_wp2
      go_ret2
      exact ⟨_, rfl, Lst.nil _ _, Below.refl _ _⟩
    · go_enter Try.func35, Try.ntmps35
      go_wp2
      go_ret2
      exact ⟨_, rfl, Lst.nil _ _, Below.refl _ _⟩
  · have h2 : 33 < n2 := by omega
    clear h
    constructor
    · go_enter Try.func34, Try.ntmps34
      go_wp2
      go_ret2
      exact ⟨_, rfl, Lst.nil _ _, Below.refl _ _⟩
    · go_enter Try.func35, Try.ntmps35
      go_wp2
      go_ret2
      exact ⟨_, rfl, Lst.nil _ _, Below.refl _ _⟩

set_option maxRecDepth 100000 in
set_option maxHeartbeats 2000000 in
theorem mul_out (a1 a2 : Option Addr) (n1 n2 c1 c2 m1 m2 : Nat) (f g F : Nat → Rat) (w : World) (hn1 : n1 ≤ 33) (hn2 : n2 ≤ 33) (hl1 : LstA w (.slice a1 n1 c1) n1 8 f) (hl2 : LstA w (.slice a2 n2 c2) n2 8 g) (hm1 : trimN f n1 = m1) (hm2 : trimN g n2 = m2) (h : m1 = 0 ∨ m2 = 0 ∨ 34 < m1 + m2) :
    Calls Try.prog 34 #[.slice a1 n1 c1, .slice a2 n2 c2] w (ListB 0 F (decide (m1 = 0 ∨ m2 = 0)) w) := by
  have t1 : m1 ≤ n1 := by rw [← hm1]; exact trimN_le f n1
  have t2 : m2 ≤ n2 := by rw [← hm2]; exact trimN_le g n2
  have hcan1 := fun w h => canonical_list a1 n1 c1 8 f w h (by omega) (by omega)
  have hcan2 := fun w h => canonical_list a2 n2 c2 8 g w h (by omega) (by omega)
  rw [hm1] at hcan1
  rw [hm2] at hcan2
  have HA := Lib.hid (And.intro hcan1 (And.intro hcan2 (And.intro hl1 hl2)))
  clear hcan1 hcan2 hl1 hl2 hm1 hm2
  by_cases z1 : m1 = 0
  · subst z1
    rw [decide_eq_true (by simp)]
    clear h
    go_enter Try.func34, Try.ntmps34
    go_wp2_with fail
    refine (HA.out.1 _ HA.out.2.2.1).mono ?_
    rintro e w1 ⟨v1, rfl, hv1, hb1⟩
    obtain ⟨b1, d1, rfl, _⟩ := id hv1
    have H1 := Lib.hid hb1
    clear hv1 hb1
    go_wp2_with fail
    refine (HA.out.2.1 _ (HA.out.2.2.2.below H1.out)).mono ?_
    rintro e w2 ⟨v2, rfl, hv2, hb2⟩
    obtain ⟨b2, d2, rfl, _⟩ := id hv2
    have H2 := Lib.hid (below_next' H1.out hb2)
    clear hv2 hb2
    go_wp2
    go_ret2
    exact ⟨_, rfl, Lst.nil _ _, H2.out⟩
  · by_cases z2 : m2 = 0
    · subst z2
      rw [decide_eq_true (by simp)]
      clear h
      have q1 : ((m1 : Int) == 0) = false := by simp; omega
      clear z1
      go_enter Try.func34, Try.ntmps34
      go_wp2_with fail
      refine (HA.out.1 _ HA.out.2.2.1).mono ?_
      rintro e w1 ⟨v1, rfl, hv1, hb1⟩
      obtain ⟨b1, d1, rfl, _⟩ := id hv1
      have H1 := Lib.hid hb1
      clear hv1 hb1
      go_wp2_with fail
      refine (HA.out.2.1 _ (HA.out.2.2.2.below H1.out)).mono ?_
      rintro e w2 ⟨v2, rfl, hv2, hb2⟩
      obtain ⟨b2, d2, rfl, _⟩ := id hv2
      have H2 := Lib.hid (below_next' H1.out hb2)
      clear hv2 hb2
      go_wp2
      go_ret2
      exact ⟨_, rfl, Lst.nil _ _, H2.out⟩
    · rw [decide_eq_false (by omega)]
      have q1 : ((m1 : Int) == 0) = false := by simp; omega
      have q2 : ((m2 : Int) == 0) = false := by simp; omega
      have q3 : 34 < (m1 : Int) + (m2 : Int) := by omega
      have q4 : 33 < (m1 : Int) + (m2 : Int) - 1 := by omega
      clear h z1 z2
      go_enter Try.func34, Try.ntmps34
      go_wp2_with fail
      refine (HA.out.1 _ HA.out.2.2.1).mono ?_
      rintro e w1 ⟨v1, rfl, hv1, hb1⟩
      obtain ⟨b1, d1, rfl, _⟩ := id hv1
      have H1 := Lib.hid hb1
      clear hv1 hb1
      go_wp2_with fail
      refine (HA.out.2.1 _ (HA.out.2.2.2.below H1.out)).mono ?_
      rintro e w2 ⟨v2, rfl, hv2, hb2⟩
      obtain ⟨b2, d2, rfl, _⟩ := id hv2
      have H2 := Lib.hid (below_next' H1.out hb2)
      clear hv2 hb2
      go_wp2
      go_ret2
      exact ⟨_, rfl, Lst.nil _ _, H2.out⟩

set_option maxRecDepth 100000 in
set_option maxHeartbeats 2000000 in
theorem refMul_out (a1 a2 : Option Addr) (n1 n2 c1 c2 m1 m2 : Nat) (f g F : Nat → Rat) (w : World) (hn1 : n1 ≤ 33) (hn2 : n2 ≤ 33) (hl1 : LstA w (.slice a1 n1 c1) n1 8 f) (hl2 : LstA w (.slice a2 n2 c2) n2 8 g) (hm1 : trimN f n1 = m1) (hm2 : trimN g n2 = m2) (h : m1 = 0 ∨ m2 = 0 ∨ 34 < m1 + m2) :
    Calls Try.prog 35 #[.slice a1 n1 c1, .slice a2 n2 c2] w (ListB 0 F (decide (m1 = 0 ∨ m2 = 0)) w) := by
  have t1 : m1 ≤ n1 := by rw [← hm1]; exact trimN_le f n1
  have t2 : m2 ≤ n2 := by rw [← hm2]; exact trimN_le g n2
  have hcan1 := fun w h => refCanonical_list a1 n1 c1 8 f w h (by omega) (by omega)
  have hcan2 := fun w h => refCanonical_list a2 n2 c2 8 g w h (by omega) (by omega)
  rw [hm1] at hcan1
  rw [hm2] at hcan2
  have HA := Lib.hid (And.intro hcan1 (And.intro hcan2 (And.intro hl1 hl2)))
  clear hcan1 hcan2 hl1 hl2 hm1 hm2
  by_cases z1 : m1 = 0
  · subst z1
    rw [decide_eq_true (by simp)]
    clear h
    go_enter Try.func35, Try.ntmps35
    go_wp2_with fail
    refine (HA.out.1 _ HA.out.2.2.1).mono ?_
    rintro e w1 ⟨v1, rfl, hv1, hb1⟩
    obtain ⟨b1, d1, rfl, _⟩ := id hv1
    have H1 := Lib.hid hb1
    clear hv1 hb1
    go_wp2_with fail
    refine (HA.out.2.1 _ (HA.out.2.2.2.below H1.out)).mono ?_
    rintro e w2 ⟨v2, rfl, hv2, hb2⟩
    obtain ⟨b2, d2, rfl, _⟩ := id hv2
    have H2 := Lib.hid (below_next' H1.out hb2)
    clear hv2 hb2
    go_wp2
    go_ret2
    exact ⟨_, rfl, Lst.nil _ _, H2.out⟩
  · by_cases z2 : m2 = 0
    · subst z2
      rw [decide_eq_true (by simp)]
      clear h
      have q1 : ((m1 : Int) == 0) = false := by simp; omega
      clear z1
      go_enter Try.func35, Try.ntmps35
      go_wp2_with fail
      refine (HA.out.1 _ HA.out.2.2.1).mono ?_
      rintro e w1 ⟨v1, rfl, hv1, hb1⟩
      obtain ⟨b1, d1, rfl, _⟩ := id hv1
      have H1 := Lib.hid hb1
      clear hv1 hb1
      go_wp2_with fail
      refine (HA.out.2.1 _ (HA.out.2.2.2.below H1.out)).mono ?_
      rintro e w2 ⟨v2, rfl, hv2, hb2⟩
      obtain ⟨b2, d2, rfl, _⟩ := id hv2
      have H2 := Lib.hid (below_next' H1.out hb2)
      clear hv2 hb2
      go_wp2
      go_ret2
      exact ⟨_, rfl, Lst.nil _ _, H2.out⟩
    · rw [decide_eq_false (by omega)]
      have q1 : ((m1 : Int) == 0) = false := by simp; omega
      have q2 : ((m2 : Int) == 0) = false := by simp; omega
      have q3 : 34 < (m1 : Int) + (m2 : Int) := by omega
      have q4 : 33 < (m1 : Int) + (m2 : Int) - 1 := by omega
      clear h z1 z2
      go_enter Try.func35, Try.ntmps35
      go_wp2_with fail
      refine (HA.out.1 _ HA.out.2.2.1).mono ?_
      rintro e w1 ⟨v1, rfl, hv1, hb1⟩
      obtain ⟨b1, d1, rfl, _⟩ := id hv1
      have H1 := Lib.hid hb1
      clear hv1 hb1
      go_wp2_with fail
      refine (HA.out.2.1 _ (HA.out.2.2.2.below H1.out)).mono ?_
      rintro e w2 ⟨v2, rfl, hv2, hb2⟩
      obtain ⟨b2, d2, rfl, _⟩ := id hv2
      have H2 := Lib.hid (below_next' H1.out hb2)
      clear hv2 hb2
      go_wp2
      go_ret2
      exact ⟨_, rfl, Lst.nil _ _, H2.out⟩
end Go.Proofs.Ytdpiclmjdcjajaa

/-
  The walk of the law BinomialAdds: for every two lists that can be read it returns true. No conditions.
-/
namespace Go.Proofs.Ytdpiclmjdcjajaa
open Go.RowKit Num

theorem sz_mulC {f g : Nat → Rat} {m1 m2 N k : Nat} (hf : ∀ i, i < m1 → Sz (f i) 9) (hg : ∀ i, i < m2 → Sz (g i) 9) (h1 : m1 ≤ 33) (h2 : m2 ≤ 33) (hm : m1 + m2 ≤ 34) (hN : N ≤ 33) (hk : k < N) : Sz (mulC m1 m2 f g k) 679 := by
  rw [← mul_difs m1 m2 f g hm k (by omega)]
  exact sz_difsM (N := N) hf hg h1 h2 hN (by omega)
theorem add_both (a1 a2 : Option Addr) (n1 n2 c1 c2 : Nat) (f g : Nat → Rat) (h1 : n1 ≤ 36) (h2 : n2 ≤ 36) (hf : ∀ i, i < n1 → Sz (f i) 9) (hg : ∀ i, i < n2 → Sz (g i) 9) :
    ∃ m h c, (∀ i, i < m → Sz (h i) 679) ∧ (∀ w, LstA w (.slice a1 n1 c1) n1 8 f → LstA w (.slice a2 n2 c2) n2 8 g → Calls Try.prog 32 #[.slice a1 n1 c1, .slice a2 n2 c2] w (ListB m h c w)) ∧ ∀ w, LstA w (.slice a1 n1 c1) n1 8 f → LstA w (.slice a2 n2 c2) n2 8 g → Calls Try.prog 33 #[.slice a1 n1 c1, .slice a2 n2 c2] w (ListB m h c w) := by
  by_cases hl : n1 ≤ 33 ∧ n2 ≤ 33
  · obtain ⟨N, hN⟩ : ∃ N, (n1 < n2 ∧ n2 = N) ∨ (¬ n1 < n2 ∧ n1 = N) := by
      by_cases h : n1 < n2
      · exact ⟨n2, .inl ⟨h, rfl⟩⟩
      · exact ⟨n1, .inr ⟨h, rfl⟩⟩
    exact ⟨_, _, true, fun i _ => sz_le (sz_addQ hf hg (by omega) (by omega) i) (by omega), fun w hu hv => add_in a1 a2 n1 n2 c1 c2 8 8 N f g w hu hv hl.1 hl.2 hN (by omega) hf hg, fun w hu hv => refAddL_in a1 a2 n1 n2 c1 c2 N f g w hu hv hl.1 hl.2 hN hf hg⟩
  · exact ⟨0, f, false, fun i hi => by omega, fun w _ _ => add_out a1 a2 n1 n2 c1 c2 f w (by omega) (by omega) (by omega), fun w _ _ => refAdd_out a1 a2 n1 n2 c1 c2 f w (by omega) (by omega) (by omega)⟩
theorem mul_both (a1 a2 : Option Addr) (n1 n2 c1 c2 : Nat) (f g : Nat → Rat) (h1 : n1 ≤ 36) (h2 : n2 ≤ 36) (hf : ∀ i, i < n1 → Sz (f i) 9) (hg : ∀ i, i < n2 → Sz (g i) 9) :
    ∃ m h c, (∀ i, i < m → Sz (h i) 679) ∧ (∀ w, LstA w (.slice a1 n1 c1) n1 8 f → LstA w (.slice a2 n2 c2) n2 8 g → Calls Try.prog 34 #[.slice a1 n1 c1, .slice a2 n2 c2] w (ListB m h c w)) ∧ ∀ w, LstA w (.slice a1 n1 c1) n1 8 f → LstA w (.slice a2 n2 c2) n2 8 g → Calls Try.prog 35 #[.slice a1 n1 c1, .slice a2 n2 c2] w (ListB m h c w) := by
  by_cases hl : n1 ≤ 33 ∧ n2 ≤ 33
  · obtain ⟨m1, hm1⟩ : ∃ m, trimN f n1 = m := ⟨_, rfl⟩
    obtain ⟨m2, hm2⟩ : ∃ m, trimN g n2 = m := ⟨_, rfl⟩
    have t1 : m1 ≤ n1 := by rw [← hm1]; exact trimN_le f n1
    have t2 : m2 ≤ n2 := by rw [← hm2]; exact trimN_le g n2
    by_cases h : m1 = 0 ∨ m2 = 0 ∨ 34 < m1 + m2
    · exact ⟨0, f, _, fun i hi => by omega, fun w hu hv => mul_out a1 a2 n1 n2 c1 c2 m1 m2 f g f w hl.1 hl.2 hu hv hm1 hm2 h, fun w hu hv => refMul_out a1 a2 n1 n2 c1 c2 m1 m2 f g f w hl.1 hl.2 hu hv hm1 hm2 h⟩
    · obtain ⟨N, hN⟩ : ∃ N, N + 1 = m1 + m2 := ⟨m1 + m2 - 1, by omega⟩
      refine ⟨_, _, true, fun i hi => ?_, fun w hu hv => mul_in a1 a2 n1 n2 c1 c2 m1 m2 N f g w hl.1 hl.2 hu hv hf hg hm1 hm2 (by omega) (by omega) (by omega) hN, fun w hu hv => refMul_in a1 a2 n1 n2 c1 c2 m1 m2 N f g w hl.1 hl.2 hu hv hf hg hm1 hm2 (by omega) (by omega) (by omega) hN⟩
      have := trimN_le (mulC m1 m2 f g) N
      exact sz_mulC (N := N) (fun i hi => hf i (by omega)) (fun i hi => hg i (by omega)) (by omega) (by omega) (by omega) (by omega) (by omega)
  · exact ⟨0, f, false, fun i hi => by omega, fun w _ _ => (mul_long a1 a2 n1 n2 c1 c2 f w (by omega) (by omega) (by omega)).1, fun w _ _ => (mul_long a1 a2 n1 n2 c1 c2 f w (by omega) (by omega) (by omega)).2⟩

set_option maxRecDepth 100000 in
set_option maxHeartbeats 8000000 in
theorem adds_walk (a1 : Option Addr) (n1 c1 : Nat) (f : Nat → Rat) (s1 : Nat → Bool) (a2 : Option Addr) (n2 c2 : Nat) (g : Nat → Rat) (s2 : Nat → Bool) (w : World) (hn1 : n1 ≤ 9223372036854775807) (b1 : n1 ≤ c1) (b2 : c1 ≤ 9223372036854775807) (h1 : ∀ i, i < n1 → ElemAt w a1 i f s1)
    (hn2 : n2 ≤ 9223372036854775807) (b3 : n2 ≤ c2) (b4 : c2 ≤ 9223372036854775807) (h2 : ∀ i, i < n2 → ElemAt w a2 i g s2) : Calls Try.prog 7 #[.slice a1 n1 c1, .slice a2 n2 c2] w (TrueP w) := by
  have hr1 := rats36_any a1 n1 c1 f s1 w hn1 h1
  have HH := Lib.hid (And.intro h1 (And.intro hr1 h2))
  clear h1 hr1 h2
  go_enter Try.func7, Try.ntmps7
  go_wp2_with fail
  refine HH.out.2.1.mono ?_
  rintro e w0 ⟨bb, rfl, hbb, hb0⟩
  have HB := Lib.hid (And.intro hbb hb0)
  clear hbb hb0
  cases bb
  · go_wp2
    go_ret
    exact ⟨rfl, HB.out.2⟩
  go_wp2_with fail
  refine (rats36_any a2 n2 c2 g s2 w0 hn2 fun i hi => (HH.out.2.2 i hi).below HB.out.2).mono ?_
  rintro e w1 ⟨bb, rfl, hbb, hb1⟩
  have HC := Lib.hid (And.intro hbb (below_next' HB.out.2 hb1))
  clear hbb hb1
  cases bb
  · go_wp2
    go_ret
    exact ⟨rfl, HC.out.2⟩
  obtain ⟨hl1, hf⟩ := lstA_of HH.out.1 (HB.out.1 (by first | rfl | trivial)).2 b1 b2
  obtain ⟨hl2, hg⟩ := lstA_of HH.out.2.2 (HC.out.1 (by first | rfl | trivial)).2 b3 b4
  obtain ⟨m, h', c, hs, hp, hr⟩ := add_both a1 a2 n1 n2 c1 c2 f g (HB.out.1 (by first | rfl | trivial)).1 (HC.out.1 (by first | rfl | trivial)).1 hf hg
  obtain ⟨m', h2', c', hs', hp', hr'⟩ := mul_both a1 a2 n1 n2 c1 c2 f g (HB.out.1 (by first | rfl | trivial)).1 (HC.out.1 (by first | rfl | trivial)).1 hf hg
  have HA := Lib.hid (And.intro hs (And.intro hp hr))
  have HM := Lib.hid (And.intro hs' (And.intro hp' hr'))
  have HL := Lib.hid (And.intro hl1 hl2)
  clear hs hp hr hs' hp' hr' hl1 hl2 hf hg
  go_wp2_with fail
  refine (HA.out.2.1 _ (HL.out.1.below HC.out.2) (HL.out.2.below HC.out.2)).mono ?_
  rintro e w2 ⟨v1, rfl, hv1, hb2⟩
  have H1 := Lib.hid (And.intro hv1 (below_next' HC.out.2 hb2))
  clear hv1 hb2
  go_wp2_with fail
  refine (HA.out.2.2 _ (HL.out.1.below H1.out.2) (HL.out.2.below H1.out.2)).mono ?_
  rintro e w3 ⟨v2, rfl, hv2, hb3⟩
  have H2 := Lib.hid (And.intro (H1.out.1.below hb3) (And.intro hv2 (below_next' H1.out.2 hb3)))
  clear hv2 hb3
  go_wp2_with fail
  refine (sameRats_any _ _ m 679 h' _ H2.out.1 H2.out.2.1 HA.out.1 (by omega)).mono ?_
  rintro e w4 ⟨rfl, hb4⟩
  have H3 := Lib.hid (below_next' H2.out.2.2 hb4)
  clear hb4
  go_wp2_with fail
  refine (awake2_any _).mono ?_
  rintro e w5 ⟨rfl, hb5⟩
  have H4 := Lib.hid (below_next' H3.out hb5)
  clear hb5
  go_wp2_with fail
  refine (HM.out.2.1 _ (HL.out.1.below H4.out) (HL.out.2.below H4.out)).mono ?_
  rintro e w6 ⟨v3, rfl, hv3, hb6⟩
  have H5 := Lib.hid (And.intro hv3 (below_next' H4.out hb6))
  clear hv3 hb6
  go_wp2_with fail
  refine (HM.out.2.2 _ (HL.out.1.below H5.out.2) (HL.out.2.below H5.out.2)).mono ?_
  rintro e w7 ⟨v4, rfl, hv4, hb7⟩
  have H6 := Lib.hid (And.intro (H5.out.1.below hb7) (And.intro hv4 (below_next' H5.out.2 hb7)))
  clear hv4 hb7
  go_wp2_with fail
  refine (sameRats_any _ _ m' 679 h2' _ H6.out.1 H6.out.2.1 HM.out.1 (by omega)).mono ?_
  rintro e w8 ⟨rfl, hb8⟩
  have H7 := Lib.hid (below_next' H6.out.2.2 hb8)
  clear hb8
  go_wp2
  go_ret
  exact ⟨rfl, H7.out⟩
end Go.Proofs.Ytdpiclmjdcjajaa

/-
  The walk of the law BinomialRing: for every two lists that can be read and every integer it returns true. No conditions.
-/
namespace Go.Proofs.Ytdpiclmjdcjajaa
open Go.RowKit Num

theorem wh_mulC {f g : Nat → Rat} {D1 D2 kf kg n1 n2 k : Nat} (hf : ∀ i, i < n1 → Wh D1 (pw kf) (f i)) (hg : ∀ i, i < n2 → Wh D2 (pw kg) (g i)) (h : n1 + n2 ≤ 34) : Wh (D1 * D2) (n1 * (n2 * pw (kf + kg + 2))) (mulC n1 n2 f g k) := by
  refine wh_sum n1 fun i hi => wh_sum n2 fun j hj => ?_
  have h1 := ((hf i hi).mul (hg j hj)).mul ((wh_int ((pc i j k : Nat) : Int)).le (show ((pc i j k : Nat) : Int).natAbs ≤ pw 2 by rw [Int.natAbs_natCast]; exact pc_le (by omega)))
  rw [← pw_add, ← pw_add, Nat.mul_one] at h1
  exact h1
theorem sz_mulC10 {f g : Nat → Rat} {m1 m2 k : Nat} (hf : ∀ i, i < m1 → Sz (f i) 9) (hg : ∀ i, i < m2 → Sz (g i) 9) (h1 : m1 ≤ 10) (h2 : m2 ≤ 10) : Sz (mulC m1 m2 f g k) 206 := by
  have h := wh_mulC (D1 := scl f m1) (D2 := scl g m2) (kf := 101) (kg := 101) (k := k) (fun i hi => (wh_over2 hf hi).le (pw_le (by omega))) (fun i hi => (wh_over2 hg hi).le (pw_le (by omega))) (by omega)
  refine (h.le (B' := pw 205) ?_).sz (Nat.mul_pos (scl_pos f m1) (scl_pos g m2)) ?_ (pw_lt (by omega)) (by omega)
  · rw [← Nat.mul_assoc, show (205 : Nat) = 1 + (101 + 101 + 2) by omega, pw_add 1]
    refine Nat.mul_le_mul_right _ ?_
    have := Nat.mul_le_mul h1 h2
    exact Nat.le_trans this (by unfold pw; decide)
  · have := Nat.mul_lt_mul_of_lt_of_lt (scl_lt hf m1 (Nat.le_refl _)) (scl_lt hg m2 (Nat.le_refl _))
    rw [← pw_add] at this
    exact Nat.lt_of_lt_of_le this (pw_le (by omega))

/-! The values -/
theorem ev_ext {f : Nat → Rat} {n1 : Nat} (x : Nat) : ∀ d, ev (ext n1 f) (n1 + d) x = ev f n1 x
  | 0 => sumN_congr n1 fun i hi => by rw [ext_lt f hi]
  | d + 1 => by
    show ev (ext n1 f) (n1 + d) x + ext n1 f (n1 + d) * chQ (x : Int) (n1 + d) = _
    rw [ev_ext x d, ext_ge f (by omega)]
    grind
theorem ev_addQ {f g : Nat → Rat} {n1 n2 N : Nat} (h1 : n1 ≤ N) (h2 : n2 ≤ N) (x : Nat) : ev (addQ n1 n2 f g) N x = ev f n1 x + ev g n2 x := by
  have e : ev (addQ n1 n2 f g) N x = ev (ext n1 f) N x + ev (ext n2 g) N x := ev_add _ _ N x
  obtain ⟨d, rfl⟩ : ∃ d, N = n1 + d := ⟨N - n1, by omega⟩
  have e1 := ev_ext (f := f) (n1 := n1) x d
  obtain ⟨d', hd'⟩ : ∃ d', n1 + d = n2 + d' := ⟨n1 + d - n2, by omega⟩
  have e2 := ev_ext (f := g) (n1 := n2) x d'
  rw [← hd'] at e2
  rw [e, e1, e2]
theorem ev_mulN {f g : Nat → Rat} {m1 m2 N : Nat} (h : m1 + m2 ≤ 34) (hN : N + 1 = m1 + m2) (x : Nat) : ev (mulC m1 m2 f g) N x = ev f m1 x * ev g m2 x := by
  rw [mul_ev m1 m2 f g h]
  have key : ∀ d, ev (mulC m1 m2 f g) (N + d) x = ev (mulC m1 m2 f g) N x := by
    intro d
    induction d with
    | zero => rfl
    | succ d ih =>
      show ev (mulC m1 m2 f g) (N + d) x + mulC m1 m2 f g (N + d) * chQ (x : Int) (N + d) = _
      rw [ih, mulC_none (by omega)]
      grind
  have := key (33 - N)
  rw [show N + (33 - N) = 33 by omega] at this
  exact this.symm
/-- The sum's and the product's lists and their values, for short lists. -/
theorem ring_parts (a1 a2 : Option Addr) (n1 n2 c1 c2 : Nat) (f g : Nat → Rat) (x : Nat) (h1 : n1 ≤ 10) (h2 : n2 ≤ 10) (hf : ∀ i, i < n1 → Sz (f i) 9) (hg : ∀ i, i < n2 → Sz (g i) 9) :
    (∃ m h, m ≤ 10 ∧ (∀ i, i < m → Sz (h i) 206) ∧ (evQ h m (x : Int) = evQ f n1 (x : Int) + evQ g n2 (x : Int)) ∧ ∀ w, LstA w (.slice a1 n1 c1) n1 8 f → LstA w (.slice a2 n2 c2) n2 8 g → Calls Try.prog 32 #[.slice a1 n1 c1, .slice a2 n2 c2] w (ListB m h true w)) ∧
    (∃ m h, m ≤ 20 ∧ (∀ i, i < m → Sz (h i) 206) ∧ (evQ h m (x : Int) = evQ f n1 (x : Int) * evQ g n2 (x : Int)) ∧ ∀ w, LstA w (.slice a1 n1 c1) n1 8 f → LstA w (.slice a2 n2 c2) n2 8 g → Calls Try.prog 34 #[.slice a1 n1 c1, .slice a2 n2 c2] w (ListB m h true w)) := by
  constructor
  · obtain ⟨N, hN⟩ : ∃ N, (n1 < n2 ∧ n2 = N) ∨ (¬ n1 < n2 ∧ n1 = N) := by
      by_cases h : n1 < n2
      · exact ⟨n2, .inl ⟨h, rfl⟩⟩
      · exact ⟨n1, .inr ⟨h, rfl⟩⟩
    refine ⟨_, _, ?_, fun i _ => sz_le (sz_addQ hf hg (by omega) (by omega) i) (by omega), ?_, fun w hu hv => add_in a1 a2 n1 n2 c1 c2 8 8 N f g w hu hv (by omega) (by omega) hN (by omega) hf hg⟩
    · have := trimN_le (addQ n1 n2 f g) N
      omega
    · show ev (addQ n1 n2 f g) (trimN (addQ n1 n2 f g) N) x = ev f n1 x + ev g n2 x
      rw [ev_trim, ev_addQ (by omega) (by omega)]
  · obtain ⟨m1, hm1⟩ : ∃ m, trimN f n1 = m := ⟨_, rfl⟩
    obtain ⟨m2, hm2⟩ : ∃ m, trimN g n2 = m := ⟨_, rfl⟩
    have t1 : m1 ≤ n1 := by rw [← hm1]; exact trimN_le f n1
    have t2 : m2 ≤ n2 := by rw [← hm2]; exact trimN_le g n2
    have v1 : ev f m1 x = ev f n1 x := by rw [← hm1]; exact ev_trim f n1 x
    have v2 : ev g m2 x = ev g n2 x := by rw [← hm2]; exact ev_trim g n2 x
    by_cases h : m1 = 0 ∨ m2 = 0
    · refine ⟨0, f, by omega, fun i hi => by omega, ?_, fun w hu hv => ?_⟩
      · show (0 : Rat) = ev f n1 x * ev g n2 x
        rw [← v1, ← v2]
        rcases h with rfl | rfl
        · exact (Rat.zero_mul _).symm
        · exact (Rat.mul_zero _).symm
      · have := mul_out a1 a2 n1 n2 c1 c2 m1 m2 f g f w (by omega) (by omega) hu hv hm1 hm2 (by omega)
        rwa [decide_eq_true h] at this
    · obtain ⟨N, hN⟩ : ∃ N, N + 1 = m1 + m2 := ⟨m1 + m2 - 1, by omega⟩
      refine ⟨_, _, ?_, fun i _ => sz_mulC10 (fun i hi => hf i (by omega)) (fun i hi => hg i (by omega)) (by omega) (by omega), ?_, fun w hu hv => mul_in a1 a2 n1 n2 c1 c2 m1 m2 N f g w (by omega) (by omega) hu hv hf hg hm1 hm2 (by omega) (by omega) (by omega) hN⟩
      · have := trimN_le (mulC m1 m2 f g) N
        omega
      · show ev (mulC m1 m2 f g) (trimN (mulC m1 m2 f g) N) x = ev f n1 x * ev g n2 x
        rw [ev_trim, ev_mulN (by omega) hN, v1, v2]

section
variable {κ : Tmp → Ke} {G : Nat → Option Tmp} {d s t u c : Tmp} {ty : TypeId} {pos : String} {es : Array Edge}
theorem run_call23 (a : Act) (d : Option Tmp) (ty : TypeId) (pos : String) (es : Array Edge) (w : World) :
    Sem.run Try.prog (execOp a.eval ⟨d, .call ⟨.value (.func 23), #[], #[]⟩, ty, pos, es, none⟩) w = .ok (.enter 23 #[]) w := by go_simp
theorem e_awake2 (hd : κ d = .con (.bool true)) : FlowStep Try.prog (Fe κ) G ⟨some d, .call ⟨.value (.func 23), #[], #[]⟩, ty, pos, es, none⟩ := by
  refine e_step rfl fun a w Q _ => ?_
  unfold Oper.wp
  rw [run_call23, Oper.upon_enter]
  refine (awake2_any w).mono ?_
  rintro e w' ⟨rfl, hb⟩
  exact ⟨_, rfl, hb, fun d' hd' => by cases hd'; rw [hd]; rfl⟩
end
def rgK (K : Nat) (x y : Rat) : Tmp → Ke := fun t => ([.any, .any, .any, .any, .any, .any, .con (.bool true), .box K x, .con (.bool true), .box K y, .con (.bool true), .any, .con (.bool true), .any, .con (.bool true), .box K (x + y), .con (.bool true), .box K (x * y), .con (.bool true), .any, .any, .any, .any, .any, .any, .any, .any, .any, .any, .any, .any, .any, .any, .any, .any, .any, .any, .any, .any, .any, .any, .any, .any, .any, .any, .any, .any, .any, .any, .any, .any, .any, .any, .any, .any, .any, .any, .any, .any, .any, .any, .any, .any, .any, .any, .any, .any, .any, .any, .any, .any, .con (.bool true), .con (.bool true), .con (.bool true), .con (.bool true), .con (.bool true), .con (.bool true), .con (.bool true), .con (.bool true), .con (.bool true), .con (.bool true), .con (.bool true), .con (.bool true), .con (.bool true), .con (.bool true), .con (.bool true), .con (.bool true), .con (.bool true), .ratC (x + y), .ra K x, .rc K y, .ratC (x + y), .con (.bool true), .con (.bool true), .con (.bool true), .ratC (x * y), .ra K x, .rc K y, .ratC (x * y), .con (.bool true), .con (.bool true), .con (.bool true), .con (.bool true), .con (.bool true)] : List Ke).getD t .any

set_option maxRecDepth 100000 in
set_option maxHeartbeats 16000000 in
theorem ring_walk (a1 : Option Addr) (n1 c1 : Nat) (f : Nat → Rat) (s1 : Nat → Bool) (a2 : Option Addr) (n2 c2 : Nat) (g : Nat → Rat) (s2 : Nat → Bool) (z : Int) (w : World) (hn1 : n1 ≤ 9223372036854775807) (b1 : n1 ≤ c1) (b2 : c1 ≤ 9223372036854775807) (h1 : ∀ i, i < n1 → ElemAt w a1 i f s1)
    (hn2 : n2 ≤ 9223372036854775807) (b3 : n2 ≤ c2) (b4 : c2 ≤ 9223372036854775807) (h2 : ∀ i, i < n2 → ElemAt w a2 i g s2) (_ : -9223372036854775808 ≤ z) (_ : z ≤ 9223372036854775807) : Calls Try.prog 13 #[.slice a1 n1 c1, .slice a2 n2 c2, .int .i64 z] w (TrueP w) := by
  have hr1 := few_any a1 n1 c1 f s1 w hn1 h1
  have HH := Lib.hid (And.intro h1 (And.intro hr1 h2))
  clear h1 hr1 h2
  go_enter Try.func13, Try.ntmps13
  go_wp2_with fail
  refine HH.out.2.1.mono ?_
  rintro e w0 ⟨bb, rfl, hbb, hb0⟩
  have HB := Lib.hid (And.intro hbb hb0)
  clear hbb hb0
  cases bb
  · go_wp2
    go_ret
    exact ⟨rfl, HB.out.2⟩
  go_wp2_with fail
  refine (few_any a2 n2 c2 g s2 w0 hn2 fun i hi => (HH.out.2.2 i hi).below HB.out.2).mono ?_
  rintro e w1 ⟨bb, rfl, hbb, hb1⟩
  have HC := Lib.hid (And.intro hbb (below_next' HB.out.2 hb1))
  clear hbb hb1
  cases bb
  · go_wp2
    go_ret
    exact ⟨rfl, HC.out.2⟩
  by_cases g1 : z < 0
  · go_wp2
    go_ret
    exact ⟨rfl, HC.out.2⟩
  by_cases g2 : 1048576 < z
  · go_wp2
    go_ret
    exact ⟨rfl, HC.out.2⟩
  obtain ⟨hl1, hf⟩ := lstA_of HH.out.1 (HB.out.1 (by first | rfl | trivial)).2 b1 b2
  obtain ⟨hl2, hg⟩ := lstA_of HH.out.2.2 (HC.out.1 (by first | rfl | trivial)).2 b3 b4
  have t1 := (HB.out.1 (by first | rfl | trivial)).1
  have t2 := (HC.out.1 (by first | rfl | trivial)).1
  obtain ⟨ξ, hξ⟩ : ∃ ξ : Nat, z = ξ := ⟨z.toNat, by omega⟩
  obtain ⟨⟨m, h', hm, hs, hv, hp⟩, m', h2', hm', hs', hv', hp'⟩ := ring_parts a1 a2 n1 n2 c1 c2 f g ξ t1 t2 hf hg
  rw [← hξ] at hv hv'
  have hzz : ∀ k, k ≤ 33 → Sz (chQ z k) 24 := fun k hk => sz_chI (by omega) (by omega) hk
  have e1 := fun w h => eval_all (.slice a1 n1 c1) n1 8 40 f z w h (by omega) (by omega) (by omega) (fun i hi => sz_le (sz_mul (hf i hi) (hzz i (by omega))) (by omega)) (by omega) (by omega)
  have e2 := fun w h => eval_all (.slice a2 n2 c2) n2 8 40 g z w h (by omega) (by omega) (by omega) (fun i hi => sz_le (sz_mul (hg i hi) (hzz i (by omega))) (by omega)) (by omega) (by omega)
  have e3 := fun w v h => eval_all v m 206 240 h' z w h (by omega) (by omega) (by omega) (fun i hi => sz_le (sz_mul (hs i hi) (hzz i (by omega))) (by omega)) (by omega) (by omega)
  have e4 := fun w v h => eval_all v m' 206 240 h2' z w h (by omega) (by omega) (by omega) (fun i hi => sz_le (sz_mul (hs' i hi) (hzz i (by omega))) (by omega)) (by omega) (by omega)
  rw [hv] at e3
  rw [hv'] at e4
  have hsx : Sz (evQ f n1 z) 500 := sz_le (sz_sumK (n := n1) (K := 40) (fun i hi => sz_le (sz_mul (hf i hi) (hzz i (by omega))) (by omega)) n1 (Nat.le_refl _)) (by omega)
  have hsy : Sz (evQ g n2 z) 500 := sz_le (sz_sumK (n := n2) (K := 40) (fun i hi => sz_le (sz_mul (hg i hi) (hzz i (by omega))) (by omega)) n2 (Nat.le_refl _)) (by omega)
  obtain ⟨x, hx⟩ : ∃ x, evQ f n1 z = x := ⟨_, rfl⟩
  obtain ⟨y, hy⟩ : ∃ y, evQ g n2 z = y := ⟨_, rfl⟩
  rw [hx] at e1 e3 e4 hsx
  rw [hy] at e2 e3 e4 hsy
  have HE := Lib.hid (And.intro e1 (And.intro e2 (And.intro e3 e4)))
  have HP := Lib.hid (And.intro hp (And.intro hp' (And.intro hs hs')))
  have HZ := Lib.hid (And.intro hsx (And.intro hsy (And.intro (sz_le (sz_add hsx hsy) (show 500 + 500 + 1 ≤ 1001 by omega)) (sz_le (sz_mul hsx hsy) (show 500 + 500 + 1 ≤ 1001 by omega)))))
  have HL := Lib.hid (And.intro hl1 hl2)
  clear e1 e2 e3 e4 hp hp' hs hs' hv hv' hsx hsy hl1 hl2 hf hg hx hy hzz hξ
  go_wp2_with fail
  refine (HE.out.1 _ (HL.out.1.below HC.out.2)).mono ?_
  rintro e u1 ⟨v1, rfl, hv1, hb⟩
  obtain ⟨j1, j2, j3, j4, j5, j6, hj, _⟩ := id hv1
  subst hj
  obtain ⟨sg1, hs⟩ : ∃ s, decide ((x).num < 0) = s := ⟨_, rfl⟩
  rw [hs] at hv1 ⊢
  have hb4 := below_alloc1 u1 (.cells #[.bool sg1, .slice j1 j2 j3, .slice j4 j5 j6] 24)
  have hB4 := BoxV.new u1 u1.heap.size 24 (Nat.le_refl _) [.bool sg1, .slice j1 j2 j3, .slice j4 j5 j6]
  have hbb := below_next' hb hb4
  have hbx := boxC_of hB4 (hv1.below hb4) (sz_le HZ.out.1 (show 500 ≤ 1001 by omega))
  have X1 := Lib.hid (And.intro hbx (below_next' HC.out.2 hbb))
  clear hv1 hb hb4 hB4 hbb hbx hs
  go_wp2_with fail
  refine (HE.out.2.1 _ (HL.out.2.below X1.out.2)).mono ?_
  rintro e u2 ⟨v2, rfl, hv2, hb⟩
  obtain ⟨j1, j2, j3, j4, j5, j6, hj, _⟩ := id hv2
  subst hj
  obtain ⟨sg2, hs⟩ : ∃ s, decide ((y).num < 0) = s := ⟨_, rfl⟩
  rw [hs] at hv2 ⊢
  have hb4 := below_alloc1 u2 (.cells #[.bool sg2, .slice j1 j2 j3, .slice j4 j5 j6] 24)
  have hB4 := BoxV.new u2 u2.heap.size 24 (Nat.le_refl _) [.bool sg2, .slice j1 j2 j3, .slice j4 j5 j6]
  have hbb := below_next' hb hb4
  have hbx := boxC_of hB4 (hv2.below hb4) (sz_le HZ.out.2.1 (show 500 ≤ 1001 by omega))
  have X2 := Lib.hid (And.intro ((Ke.box 1001 x).below hbb X1.out.1) (And.intro hbx (below_next' X1.out.2 hbb)))
  clear hv2 hb hb4 hB4 hbb hbx hs
  go_wp2_with fail
  refine (HP.out.1 _ (HL.out.1.below X2.out.2.2) (HL.out.2.below X2.out.2.2)).mono ?_
  rintro e u3 ⟨v3, rfl, hv3, hb⟩
  have X3 := Lib.hid (And.intro (hv3.toA (k := 206) HP.out.2.2.1) (And.intro ((Ke.box 1001 x).below hb X2.out.1) (And.intro ((Ke.box 1001 y).below hb X2.out.2.1) (below_next' X2.out.2.2 hb))))
  clear hv3 hb
  go_wp2_with fail
  refine (HP.out.2.1 _ (HL.out.1.below X3.out.2.2.2) (HL.out.2.below X3.out.2.2.2)).mono ?_
  rintro e u4 ⟨v4, rfl, hv4, hb⟩
  have X4 := Lib.hid (And.intro (X3.out.1.below hb) (And.intro (hv4.toA (k := 206) HP.out.2.2.2) (And.intro ((Ke.box 1001 x).below hb X3.out.2.1) (And.intro ((Ke.box 1001 y).below hb X3.out.2.2.1) (below_next' X3.out.2.2.2 hb)))))
  clear hv4 hb
  go_wp2_with fail
  refine (HE.out.2.2.1 _ _ X4.out.1).mono ?_
  rintro e u5 ⟨v5, rfl, hv5, hb⟩
  obtain ⟨j1, j2, j3, j4, j5, j6, hj, _⟩ := id hv5
  subst hj
  obtain ⟨sg5, hs⟩ : ∃ s, decide ((x + y).num < 0) = s := ⟨_, rfl⟩
  rw [hs] at hv5 ⊢
  have hb4 := below_alloc1 u5 (.cells #[.bool sg5, .slice j1 j2 j3, .slice j4 j5 j6] 24)
  have hB4 := BoxV.new u5 u5.heap.size 24 (Nat.le_refl _) [.bool sg5, .slice j1 j2 j3, .slice j4 j5 j6]
  have hbb := below_next' hb hb4
  have hbx := boxC_of hB4 (hv5.below hb4) HZ.out.2.2.1
  have X5 := Lib.hid (And.intro hbx (And.intro (X4.out.2.1.below hbb) (And.intro ((Ke.box 1001 x).below hbb X4.out.2.2.1) (And.intro ((Ke.box 1001 y).below hbb X4.out.2.2.2.1) (below_next' X4.out.2.2.2.2 hbb)))))
  clear hv5 hb hb4 hB4 hbb hbx hs
  go_wp2_with fail
  refine (HE.out.2.2.2 _ _ X5.out.2.1).mono ?_
  rintro e u6 ⟨v6, rfl, hv6, hb⟩
  obtain ⟨j1, j2, j3, j4, j5, j6, hj, _⟩ := id hv6
  subst hj
  obtain ⟨sg6, hs⟩ : ∃ s, decide ((x * y).num < 0) = s := ⟨_, rfl⟩
  rw [hs] at hv6 ⊢
  have hb4 := below_alloc1 u6 (.cells #[.bool sg6, .slice j1 j2 j3, .slice j4 j5 j6] 24)
  have hB4 := BoxV.new u6 u6.heap.size 24 (Nat.le_refl _) [.bool sg6, .slice j1 j2 j3, .slice j4 j5 j6]
  have hbb := below_next' hb hb4
  have hbx := boxC_of hB4 (hv6.below hb4) HZ.out.2.2.2
  have X6 := Lib.hid (And.intro ((Ke.box 1001 (x + y)).below hbb X5.out.1) (And.intro hbx (And.intro ((Ke.box 1001 x).below hbb X5.out.2.2.1) (And.intro ((Ke.box 1001 y).below hbb X5.out.2.2.2.1) (below_next' X5.out.2.2.2.2 hbb)))))
  clear hv6 hb hb4 hB4 hbb hbx hs
  go_wp2_with fail
  refine region_flow (Fe (rgK 1001 x y)) (by rfl) (Fe.mono _) 104 (by rfl) (by kernel_rfl) (by kernel_rfl) [7, 8, 9, 10, 12, 14, 15, 16, 17, 18] (by kernel_rfl) ?g0 (Fe.draw _) ?gs ?gf
  case g0 =>
    intro t ht
    simp only [List.mem_cons, List.not_mem_nil, or_false] at ht
    rcases ht with rfl | rfl | rfl | rfl | rfl | rfl | rfl | rfl | rfl | rfl
    · exact X6.out.2.2.1
    · rfl
    · exact X6.out.2.2.2.1
    · rfl
    · rfl
    · rfl
    · exact X6.out.1
    · rfl
    · exact X6.out.2.1
    · rfl
  case gs =>
    exact ⟨e_move rfl, e_move rfl, g_lift (eguard (s := 72) rfl rfl) (e_move rfl), g_and eguard0 rfl rfl, e_move rfl, g_lift (eguard (s := 75) rfl rfl) (e_move rfl), g_and eguard0 rfl rfl, e_move rfl, g_lift (eguard (s := 78) rfl rfl) (e_move rfl), g_and eguard0 rfl rfl, e_move rfl, g_lift (eguard (s := 81) rfl rfl) (e_move rfl), g_and eguard0 rfl rfl, e_move rfl, g_lift (eguard (s := 84) rfl rfl) (e_move rfl), g_and eguard0 rfl rfl, e_move rfl, g_lift (eguard (s := 87) rfl rfl) (e_loadQ rfl rfl), g_lift (eguard (s := 87) rfl rfl) (e_loadC rfl rfl), g_lift (eguard (s := 87) rfl rfl) (e_loadR rfl rfl), g_lift (eguard (s := 87) rfl rfl) (e_add4 rfl rfl rfl (by omega)), g_lift (eguard (s := 87) rfl rfl) (e_same19 rfl rfl rfl HZ.out.2.2.1 (by omega)), g_and eguard0 rfl rfl, e_move rfl, g_lift (eguard (s := 94) rfl rfl) (e_loadQ rfl rfl), g_lift (eguard (s := 94) rfl rfl) (e_loadC rfl rfl), g_lift (eguard (s := 94) rfl rfl) (e_loadR rfl rfl), g_lift (eguard (s := 94) rfl rfl) (e_mul2 rfl rfl rfl (by omega)), g_lift (eguard (s := 94) rfl rfl) (e_same19 rfl rfl rfl HZ.out.2.2.2 (by omega)), g_and eguard0 rfl rfl, e_move rfl, g_lift (eguard (s := 101) rfl rfl) (e_awake2 rfl), g_and eguard0 rfl rfl, e_assign rfl, trivial⟩
  intro a3 w7 hb7 hsz7 hdf7 hfacts hout
  have e6 : a3.tmps.getD 6 undef = .bool true := hfacts 33 6 rfl
  have hdfn : a3.defers = [] := hdf7
  have HF := Lib.hid (below_next' X6.out.2.2.2.2 hb7)
  clear hb7 hfacts hout hsz7 hdf7
  rw [Array.getD_eq_getD_getElem?] at e6
  go_wp2_with fail
  exact bodyPost_ret (v := .bool true) (by simp [results, Try.results13, go_sem, e6]) hdfn ⟨rfl, HF.out⟩
end Go.Proofs.Ytdpiclmjdcjajaa

/-
  The walk of nest, whatever its step is. Conditions: at most 33 canonical numbers, intermediate numbers of at most KN limbs.
-/
namespace Go.Proofs.Ytdpiclmjdcjajaa
open Go.RowKit Num

/-- A known number of a list changes. -/
theorem LstI.upd {B g k q i : Nat} {f f' : Nat → Rat} {w : World} {b : Bool} {a a' : Option Addr} {n c n' c' : Nat} (h : LstI B g k f q w) (hi : i < q) (hq : q ≤ k) (hr : RatC w (.agg #[.bool b, .slice a n c, .slice a' n' c']) (f' i)) (he : ∀ j, j ≠ i → f' j = f j) :
    LstI B g k f' q (((w.setCell ⟨g, i * 3, none⟩ (.bool b)).setCell ⟨g, i * 3 + 1, none⟩ (.slice a n c)).setCell ⟨g, i * 3 + 2, none⟩ (.slice a' n' c')) := by
  obtain ⟨xs, h1, h2, h3, h4⟩ := h
  have hgr := grown_setL w g (i * 3) (.bool b) (.slice a n c) (.slice a' n' c')
  refine ⟨((xs.set (i * 3) (.bool b)).set (i * 3 + 1) (.slice a n c)).set (i * 3 + 2) (.slice a' n' c'), boxV_set (boxV_set (boxV_set h1 _ _) _ _) _ _, by simpa using h2, ?_, fun j hj => ?_⟩
  · intro x hx m
    rcases List.mem_or_eq_of_mem_set hx with hx | rfl
    · rcases List.mem_or_eq_of_mem_set hx with hx | rfl
      · rcases List.mem_or_eq_of_mem_set hx with hx | rfl
        · exact h3 x hx m
        · simp
      · simp
    · simp
  · by_cases hjq : j = i
    · subst hjq
      refine ⟨_, _, _, ?_, ?_, ?_, hr.other h1 h3 hgr⟩
      · simp [List.getElem?_set]; omega
      · simp [List.getElem?_set]; omega
      · simp [List.getElem?_set]; omega
    · obtain ⟨x, y, z, e1, e2, e3, hx⟩ := h4 j hj
      rw [← he j hjq] at hx
      refine ⟨x, y, z, ?_, ?_, ?_, hx.other h1 h3 hgr⟩
      · rw [List.getElem?_set_ne (by omega), List.getElem?_set_ne (by omega), List.getElem?_set_ne (by omega)]; exact e1
      · rw [List.getElem?_set_ne (by omega), List.getElem?_set_ne (by omega), List.getElem?_set_ne (by omega)]; exact e2
      · rw [List.getElem?_set_ne (by omega), List.getElem?_set_ne (by omega), List.getElem?_set_ne (by omega)]; exact e3
theorem LstI.congr {B g k q : Nat} {f f' : Nat → Rat} {w : World} (h : LstI B g k f q w) (e : ∀ j, j < q → f j = f' j) : LstI B g k f' q w := by
  obtain ⟨xs, h1, h2, h3, h4⟩ := h
  exact ⟨xs, h1, h2, h3, fun j hj => by rw [← e j hj]; exact h4 j hj⟩
theorem LstI.elemC {B g k q i : Nat} {f : Nat → Rat} {w : World} (h : LstI B g k f q w) (hi : i < q) (hq : q ≤ k) : ElemC w (some ⟨g, 0, none⟩) i (f i) := by
  obtain ⟨xs, h1, h2, h3, h4⟩ := h
  obtain ⟨x, y, z, e1, e2, e3, hr⟩ := h4 i hi
  refine ⟨g, 0, x, y, z, rfl, ?_, ?_, ?_, hr⟩ <;> rw [Nat.zero_add, h1.cell _ (by omega)]
  · exact e1
  · exact e2
  · exact e3
theorem e_storeU {ops : Array Oper} {Q : Exit → Act → World → Prop} {K0 : Act → World → Prop} {m t u B g k q i : Nat} {f f' : Nat → Rat} {a : Act} {w : World} {ty : TypeId} {pos : String} {es : Array Edge}
    (ho : ops[m]? = some ⟨none, .store 24 (.tmp t) (.tmp u), ty, pos, es, none⟩) (ht : a.tmps.getD t undef = .pointer (some ⟨g, 0 + i * 3, none⟩)) (hL : LstI B g k f q w) (hi : i < q) (hq : q ≤ k) (hu : RatC w (a.tmps.getD u undef) (f' i)) (he : ∀ j, j ≠ i → f' j = f j)
    (h : ∀ v0 v1 v2, LstI B g k f' q (((w.setCell ⟨g, i * 3, none⟩ v0).setCell ⟨g, i * 3 + 1, none⟩ v1).setCell ⟨g, i * 3 + 2, none⟩ v2) → K0 a (((w.setCell ⟨g, i * 3, none⟩ v0).setCell ⟨g, i * 3 + 1, none⟩ v1).setCell ⟨g, i * 3 + 2, none⟩ v2)) :
    wpOp Try.prog ops Q m K0 a w := by
  have hC := hu
  obtain ⟨an, ln, cn, ad, ld, cd, hv, hn, hd⟩ := hu
  rw [hv] at hC
  have hT := hL.upd hi hq hC he
  obtain ⟨xs, l1, l2, l3, _⟩ := hL
  have hxl : i * 3 + 2 < xs.length := by omega
  have t0 : w.cell? ⟨g, i * 3, none⟩ = some xs[i * 3] := by rw [l1.cell _ (by omega)]; exact List.getElem?_eq_getElem _
  have t1 : w.cell? ⟨g, i * 3 + 1, none⟩ = some xs[i * 3 + 1] := by rw [l1.cell _ (by omega)]; exact List.getElem?_eq_getElem _
  have t2 : w.cell? ⟨g, i * 3 + 2, none⟩ = some xs[i * 3 + 2] := by rw [l1.cell _ (by omega)]; exact List.getElem?_eq_getElem _
  unfold wpOp
  rw [ho]
  simp only [Region.wanted, if_true]
  left
  unfold Oper.wp
  rw [Nat.zero_add] at ht
  rw [run_storeL a none ty pos es w t u g (i * 3) _ an ad ln cn ld cd _ _ _ ht hv t0 t1 t2 (l1.frozen _) (l1.frozen _) (l1.frozen _), Oper.upon_skip]
  exact h _ _ _ hT

section
variable {κ : Tmp → Ke} {G : Nat → Option Tmp} {d s t u c : Tmp} {ty : TypeId} {pos : String} {es : Array Edge} {k k' K : Nat} {p q : Rat} {f : Nat → Rat}
theorem e_idxC {g n cap i : Nat} (ht : κ t = .slC (some ⟨g, 0, none⟩) n cap i p) (hu : κ u = .con (.int .i64 i)) (hd : κ d = .con (.pointer (some ⟨g, 0 + i * 3, none⟩))) (hi : i < n) : FlowStep Try.prog (Fe κ) G ⟨some d, .indexAddr 32 (.tmp t) (.tmp u), ty, pos, es, none⟩ := by
  refine e_step rfl fun a w Q hf' => ?_
  have h := hf' t (by simp [Op.operands])
  have h' := hf' u (by simp [Op.operands])
  rw [ht] at h
  rw [hu] at h'
  obtain ⟨e1, h1⟩ := (show a.tmps.getD t undef = .slice (some ⟨g, 0, none⟩) n cap ∧ ElemC w _ i p from h)
  unfold Oper.wp
  rw [run_idxL _ _ _ _ _ _ _ _ g 0 n cap i e1 h' hi, Oper.upon_value]
  exact ⟨_, rfl, Below.refl _ _, fun d' hd' => by cases hd'; rw [hd]; rfl⟩
theorem e_addCC (ht : κ t = .ratC p) (hp : Sz p k) (hu : κ u = .ratC q) (hq : Sz q k') (hd : κ d = .ratC (p + q)) (hk : k + k' ≤ 20000) :
    FlowStep Try.prog (Fe κ) G ⟨some d, .call ⟨.value (.func 70), #[.tmp t, .tmp u], #[24, 24]⟩, ty, pos, es, none⟩ :=
  e_c2 (fun a w => c2_70 _ _ _ _ _ _ _ _) fun w x y hx hy => by
    rw [ht] at hx
    rw [hu] at hy
    have hx : RatC w x p := hx
    have hy : RatC w y q := hy
    refine (add_a (k := k + k') ((hx.a hp).le (by omega)) ((hy.a hq).le (by omega)) hk).mono ?_
    rintro e w' ⟨v, rfl, hv, hb⟩
    exact ⟨v, rfl, by rw [hd]; exact hv, hb⟩
end

/-! One step of the nested sum -/
/-- The element that the rise of the one before has laid. -/
def riG (ri : Nat → Nat → Rat) (pk : Rat) (k : Nat) (a : Nat → Rat) (i : Nat) : Rat := if i = 0 then pk else ri k (i - 1) * a (i - 1)
def fiG (st ri : Nat → Nat → Rat) (pk : Rat) (k : Nat) (a : Nat → Rat) (i : Nat) : Rat := riG ri pk k a i + st k i * a i
def inG (st ri : Nat → Nat → Rat) (pk : Rat) (k : Nat) (a : Nat → Rat) (j i : Nat) : Rat := if i < j then fiG st ri pk k a i else riG ri pk k a i
def tG (st ri : Nat → Nat → Rat) (k : Nat) (a : Nat → Rat) (i : Nat) : Rat := (if i = 0 then 0 else ri k (i - 1) * a (i - 1)) + st k i * a i
theorem nst_fiG (st ri : Nat → Nat → Rat) (p : Nat → Rat) (k d i : Nat) : nst (tG st ri) p k (d + 1) i = fiG st ri (p k) k (nst (tG st ri) p (k + 1) d) i := by
  show (if i = 0 then p k else 0) + ((if i = 0 then 0 else ri k (i - 1) * nst (tG st ri) p (k + 1) d (i - 1)) + st k i * nst (tG st ri) p (k + 1) d i) = _
  unfold fiG riG
  by_cases h : i = 0
  · rw [if_pos h, if_pos h, if_pos h]; grind
  · rw [if_neg h, if_neg h, if_neg h]; grind
theorem tG_none (st ri : Nat → Nat → Rat) (k : Nat) (a : Nat → Rat) (i : Nat) (h : ∀ j, i ≤ j + 1 → a j = 0) : tG st ri k a i = 0 := by
  unfold tG
  rw [h i (by omega)]
  split
  · grind
  · rw [h (i - 1) (by omega)]; grind
theorem inG_end {st ri : Nat → Nat → Rat} {p : Nat → Rat} {k d i : Nat} (hi : i < d + 1) : inG st ri (p k) k (nst (tG st ri) p (k + 1) d) d i = nst (tG st ri) p k (d + 1) i := by
  rw [nst_fiG]
  unfold inG
  split
  · rfl
  · unfold fiG
    rw [nst_none (tG st ri) p (tG_none st ri) d (k + 1) i (by omega)]
    grind
theorem inG_zero {st ri : Nat → Nat → Rat} {pk : Rat} {k : Nat} {a : Nat → Rat} : inG st ri pk k a 0 0 = pk := rfl
theorem inG_at {st ri : Nat → Nat → Rat} {pk : Rat} {k j : Nat} {a : Nat → Rat} : inG st ri pk k a j j + st k j * a j = inG st ri pk k a (j + 1) j := by
  unfold inG
  rw [if_neg (by omega), if_pos (by omega)]
  rfl
theorem inG_other {st ri : Nat → Nat → Rat} {pk : Rat} {k j i : Nat} {a : Nat → Rat} (h : i ≠ j) : inG st ri pk k a (j + 1) i = inG st ri pk k a j i := by
  unfold inG
  by_cases h1 : i < j
  · rw [if_pos h1, if_pos (by omega)]
  · rw [if_neg h1, if_neg (by omega)]
theorem inG_next {st ri : Nat → Nat → Rat} {pk : Rat} {k j : Nat} {a : Nat → Rat} : inG st ri pk k a (j + 1) (j + 1) = ri k j * a j := by
  unfold inG riG
  rw [if_neg (by omega), if_neg (by omega), Nat.add_sub_cancel]

/-- What a step must answer. -/
def StepOk (F : FuncId) (st ri : Nat → Nat → Rat) (n : Nat) : Prop :=
  (∀ x y w, Sem.run Try.prog (callFunc F #[x, y]) w = .ok (.enter F #[x, y]) w) ∧ ∀ (w : World) (k j : Nat), k < n → j < n → Calls Try.prog F #[.int .i64 k, .int .i64 j] w (fun e w' => ∃ u v, e = .returned (.tuple #[u, v]) ∧ RatC w' u (st k j) ∧ RatC w' v (ri k j) ∧ Below w.heap.size w w')
def neK (b : Option Addr) (g n j KA : Nat) (q a s : Rat) : Tmp → Ke := fun t => ([.any, .any, .any, .any, .any, .any, .any, .slC b n n j q, .con (.int .i64 j), .box KA a, .box 3 s, .any, .any, .any, .any, .any, .any, .any, .any, .any, .any, .any, .any, .any, .any, .any, .any, .any, .any, .any, .any, .any, .any, .any, .any, .any, .any, .any, .any, .any, .any, .any, .any, .slC b n n j q, .con (.int .i64 j), .slC b n n j q, .con (.int .i64 j), .elC q, .ratC q, .ra 3 s, .rc KA a, .ratC (s * a), .ratC (q + s * a), .con (.pointer (some ⟨g, 0 + j * 3, none⟩))] : List Ke).getD t .any

set_option maxRecDepth 100000 in
set_option maxHeartbeats 16000000 in
theorem nest_any (a0 : Option Addr) (n cap KN : Nat) (p : Nat → Rat) (F : FuncId) (st ri : Nat → Nat → Rat) (w : World) (hn : n ≤ 33) (hl : Lst w (.slice a0 n cap) n p) (hF : StepOk F st ri n) (hst : ∀ k j, k < n → j < n → Sz (st k j) 3) (hri : ∀ k j, k < n → j < n → Sz (ri k j) 3)
    (hs : ∀ k d i, k + d = n → Sz (nst (tG st ri) p k d i) KN) (hp : ∀ i, i < n → Sz (p i) KN) (hK : KN ≤ 6000) :
    Calls Try.prog 79 #[.slice a0 n cap, .func (.func F) #[] #[]] w (fun e w' => ∃ v, e = .returned v ∧ Lst w' v n (nst (tG st ri) p 0 n) ∧ Below w.heap.size w w') := by
  have hcall := hF.1
  have hGs : ∀ k d (A : Nat → Rat) (j : Nat), k + 1 + d = n → j < d → nst (tG st ri) p (k + 1) d = A → Sz (inG st ri (p k) k A j j) (2 * KN + 4) := fun k d A j hk hj hA => by
    unfold inG riG
    rw [if_neg (by omega)]
    split
    · exact sz_le (hp k (by omega)) (by omega)
    · rw [← hA]
      exact sz_le (sz_mul (hri k (j - 1) (by omega) (by omega)) (hs (k + 1) d (j - 1) hk)) (by omega)
  have HSZ := Lib.hid (And.intro hGs trivial)
  clear hGs
  have HA := Lib.hid (And.intro hl (And.intro hF.2 (And.intro hst (And.intro hri (And.intro hs hp)))))
  clear hl hF hst hri hs hp
  go_enter Try.func79, Try.ntmps79
  go_wp2_with fail
  go_loopw [5, 6] (fun x5 x6 wr => ∃ d : Nat, d ≤ n ∧ x6 = .int .i64 ((n : Int) - d - 1) ∧ Lst wr x5 d (nst (tG st ri) p (n - d) d) ∧ Below w.heap.size w wr) (fun _ x6 _ => (intOf x6 + 1).toNat)
  case atStart => exact ⟨0, Nat.zero_le _, by simp, ⟨none, 0, rfl, Nat.le_refl _, by omega, fun i hi => by omega⟩, Below.refl _ _⟩
  case round =>
    obtain ⟨wrA, hwA⟩ : ∃ x, x = wr := ⟨_, rfl⟩
    subst hwA
    obtain ⟨d, hd, rfl, hS, hbel⟩ := hrel
    obtain ⟨b5, c5, rfl, _⟩ := id hS
    by_cases hdn : d < n
    · obtain ⟨k, hk⟩ : ∃ k : Nat, k + 1 + d = n := ⟨n - d - 1, by omega⟩
      have hki : (n : Int) - d - 1 = (k : Int) := by omega
      rw [hki]
      have hk0 : (0 : Int) ≤ (k : Int) := by omega
      rw [show n - d = k + 1 by omega] at hS
      obtain ⟨A, hA⟩ : ∃ A, nst (tG st ri) p (k + 1) d = A := ⟨_, rfl⟩
      rw [hA] at hS
      have hAs : ∀ i, Sz (A i) KN := fun i => by rw [← hA]; exact HA.out.2.2.2.2.1 (k + 1) d i (by omega)
      obtain ⟨D, hD⟩ : ∃ D, D = d + 1 := ⟨_, rfl⟩
      have hfin : ∀ i, i < D → inG st ri (p k) k A d i = nst (tG st ri) p k D i := fun i hi => by rw [← hA, hD]; exact inG_end (by omega)
      obtain ⟨gp, op, x, y, z, rfl, c0, c1, c2, hr⟩ := (HA.out.1.below hbel).elem (i := k) (by omega)
      obtain ⟨m1, m2, m3, m4, m5, m6, he, _⟩ := id hr
      obtain ⟨rfl, rfl, rfl⟩ : x = .bool (decide ((p k).num < 0)) ∧ y = .slice m1 m2 m3 ∧ z = .slice m4 m5 m6 := by simpa using he
      clear he
      obtain ⟨s0, hs0⟩ : ∃ s, decide ((p k).num < 0) = s := ⟨_, rfl⟩
      rw [hs0] at hr c0
      have hb7 := below_alloc1 wrA (.cells (madeCells #[.bool false, .slice none 0 0, .slice none 0 0] (D * 3)) 24)
      have hT0 := LstI.new wrA wrA.heap.size D (inG st ri (p k) k A 0) (Nat.le_refl _)
      have hT1 := hT0.store (by omega) (hr.below hb7 : RatC _ _ (inG st ri (p k) k A 0 0))
      simp only [Nat.zero_mul, Nat.zero_add] at hT1
      have hb8 := ((hb7.setCell (p := ⟨wrA.heap.size, 0, none⟩) (Nat.le_refl _) (.bool s0)).setCell (p := ⟨wrA.heap.size, 1, none⟩) (Nat.le_refl _) (.slice m1 m2 m3)).setCell (p := ⟨wrA.heap.size, 2, none⟩) (Nat.le_refl _) (.slice m4 m5 m6)
      obtain ⟨xs, l1, l2, l3, _⟩ := hT0
      have hxl : 2 < xs.length := by omega
      have z0 : (wrA.alloc (.cells (madeCells #[.bool false, .slice none 0 0, .slice none 0 0] (D * 3)) 24)).cell? ⟨wrA.heap.size, 0, none⟩ = some xs[0] := by rw [l1.cell _ (by omega)]; exact List.getElem?_eq_getElem _
      have z1 : (wrA.alloc (.cells (madeCells #[.bool false, .slice none 0 0, .slice none 0 0] (D * 3)) 24)).cell? ⟨wrA.heap.size, 1, none⟩ = some xs[1] := by rw [l1.cell _ (by omega)]; exact List.getElem?_eq_getElem _
      have z2 : (wrA.alloc (.cells (madeCells #[.bool false, .slice none 0 0, .slice none 0 0] (D * 3)) 24)).cell? ⟨wrA.heap.size, 2, none⟩ = some xs[2] := by rw [l1.cell _ (by omega)]; exact List.getElem?_eq_getElem _
      have f0 := l1.frozen 0
      have f1 := l1.frozen 1
      have f2 := l1.frozen 2
      generalize xs[0] = xa at z0
      generalize xs[1] = xb at z1
      generalize xs[2] = xc at z2
      have c0' := cell_below hb7 c0
      have c1' := cell_below hb7 c1
      have c2' := cell_below hb7 c2
      have HR := Lib.hid (And.intro hS (And.intro hbel (And.intro hT1 (And.intro hb8 (And.intro hAs (And.intro hfin hA))))))
      clear hS hbel hT1 hb8 hb7 l1 l2 l3 hxl hr hs0 hAs hfin hA c0 c1 c2
      have hDi : (d : Int) + 1 = (D : Int) := by omega
      have hDlo : d + 1 ≤ D := by omega
      have hDhi : D ≤ d + 1 := by omega
      have hDn : D ≤ n := by omega
      have hD0 : (0 : Int) < (D : Int) := by omega
      clear hD
      go_wp2_with fail
      rw [run_make32 D wrA (by omega)]
      generalize wrA.alloc (.cells (madeCells #[.bool false, .slice none 0 0, .slice none 0 0] (D * 3)) 24) = W7 at HR z0 z1 z2 f0 f1 f2 c0' c1' c2' ⊢
      go_wp2_with fail
      go_loopw [31] (fun x wr => ∃ j : Nat, j ≤ d ∧ x = .int .i64 j ∧ LstI wrA.heap.size wrA.heap.size D (inG st ri (p k) k A j) (j + 1) wr ∧ Below wrA.heap.size wrA wr) (fun x _ => d - (intOf x).toNat)
      case atStart => exact ⟨0, Nat.zero_le _, rfl, HR.out.2.2.1, HR.out.2.2.2.1⟩
      case round =>
        obtain ⟨j, hj, rfl, hT, hbl⟩ := hrel
        by_cases hlt : j < d
        · have hji : (j : Int) < (d : Int) := by omega
          obtain ⟨gs, os, x9, y9, z9, rfl, i0, i1, i2, hr9⟩ := (HR.out.1.below hbl).elem (i := j) hlt
          obtain ⟨t1, t2, t3, t4, t5, t6, he, _⟩ := id hr9
          obtain ⟨rfl, rfl, rfl⟩ : x9 = .bool (decide ((A j).num < 0)) ∧ y9 = .slice t1 t2 t3 ∧ z9 = .slice t4 t5 t6 := by simpa using he
          clear he
          obtain ⟨sa, hsa⟩ : ∃ s, decide ((A j).num < 0) = s := ⟨_, rfl⟩
          rw [hsa] at hr9 i0
          have hb9 := below_alloc1 wr (.cells #[.bool sa, .slice t1 t2 t3, .slice t4 t5 t6] 24)
          have hB9 := BoxV.new wr wr.heap.size 24 (Nat.le_refl _) [.bool sa, .slice t1 t2 t3, .slice t4 t5 t6]
          have hx9 : (Ke.box KN (A j)).holds _ (.pointer (some ⟨wr.heap.size, 0, none⟩)) := boxC_of hB9 (hr9.below hb9) (HR.out.2.2.2.2.1 j)
          have hszr : wrA.heap.size < wr.heap.size := by obtain ⟨xs, l1, _⟩ := hT; exact l1.block.2
          have H9 := Lib.hid (And.intro hx9 (And.intro (hT.below hb9) (And.intro (below_next' hbl hb9) (And.intro hb9 hszr))))
          clear hszr hx9 hT hbl hB9 hb9 hr9 hsa
          go_wp2_with fail
          refine (HA.out.2.1 _ k j (by omega) (by omega)).mono ?_
          rintro e w10 ⟨vu, vv, rfl, hu, hv, hb10⟩
          have hu' := hu
          have hv' := hv
          obtain ⟨q1, q2, q3, q4, q5, q6, rfl, _⟩ := hu
          obtain ⟨r1, r2, r3, r4, r5, r6, rfl, _⟩ := hv
          obtain ⟨su, hsu⟩ : ∃ s, decide ((st k j).num < 0) = s := ⟨_, rfl⟩
          obtain ⟨sv, hsv⟩ : ∃ s, decide ((ri k j).num < 0) = s := ⟨_, rfl⟩
          rw [hsu] at hu' ⊢
          rw [hsv] at hv' ⊢
          have hb11 := below_alloc1 w10 (.cells #[.bool su, .slice q1 q2 q3, .slice q4 q5 q6] 24)
          have hb12 := below_alloc1 (w10.alloc (.cells #[.bool su, .slice q1 q2 q3, .slice q4 q5 q6] 24)) (.cells #[.bool sv, .slice r1 r2 r3, .slice r4 r5 r6] 24)
          have hz : (w10.alloc (.cells #[.bool su, .slice q1 q2 q3, .slice q4 q5 q6] 24)).heap.size = w10.heap.size + 1 := Array.size_push _
          have hB10 := (BoxV.new w10 0 24 (Nat.zero_le _) [.bool su, .slice q1 q2 q3, .slice q4 q5 q6]).below hb12
          have hB11 := BoxV.new (w10.alloc (.cells #[.bool su, .slice q1 q2 q3, .slice q4 q5 q6] 24)) 0 24 (Nat.zero_le _) [.bool sv, .slice r1 r2 r3, .slice r4 r5 r6]
          rw [hz] at hB11
          have hbb := below_next' hb10 (below_next' hb11 hb12)
          have hx10 : (Ke.box 3 (st k j)).holds _ (.pointer (some ⟨w10.heap.size, 0, none⟩)) := boxC_of hB10 ((hu'.below hb11).below hb12) (HA.out.2.2.1 k j (by omega) (by omega))
          have hx11 : (Ke.box 3 (ri k j)).holds _ (.pointer (some ⟨w10.heap.size + 1, 0, none⟩)) := boxC_of hB11 ((hv'.below hb11).below hb12) (HA.out.2.2.2.1 k j (by omega) (by omega))
          have hne : w10.heap.size ≠ wrA.heap.size ∧ w10.heap.size + 1 ≠ wrA.heap.size ∧ wr.heap.size ≠ wrA.heap.size := by
            have h1 := hb10.size
            have h2 := H9.out.2.2.2.1.size
            have h3 := H9.out.2.2.2.2
            omega
          have H10 := Lib.hid (And.intro ((Ke.box KN (A j)).below hbb H9.out.1) (And.intro hx10 (And.intro hx11 (And.intro (H9.out.2.1.below hbb) (And.intro (below_next' H9.out.2.2.1 hbb) hne)))))
          clear hb10 hb11 hb12 hz hB10 hB11 hbb hx10 hx11 hu' hv' hsu hsv hne i0 i1 i2
          go_wp2_with fail
          refine region_flow_tail (Fe (neK (some ⟨wrA.heap.size, 0, none⟩) wrA.heap.size D j KN (inG st ri (p k) k A j j) (A j) (st k j))) (by rfl) (Fe.mono _) 64 11 [] (by rfl) (by kernel_rfl) (by kernel_rfl) (by kernel_rfl) (by kernel_rfl) (fun t ht => by cases ht) [7, 8, 9, 10] (by kernel_rfl) ?g0 (Fe.draw _) ?gs ?gf
          case g0 =>
            intro t ht
            simp only [List.mem_cons, List.not_mem_nil, or_false] at ht
            rcases ht with rfl | rfl | rfl | rfl
            · exact ⟨rfl, H10.out.2.2.2.1.elemC (by omega) (by omega)⟩
            · rfl
            · exact H10.out.1
            · exact H10.out.2.1
          case gs =>
            exact ⟨flowN_of (e_move rfl) (by decide), flowN_of (e_move rfl) (by decide), flowN_of (e_move rfl) (by decide), flowN_of (e_move rfl) (by decide), flowN_of (e_indexC rfl rfl rfl (by omega)) (by decide), flowN_of (e_loadEC rfl rfl) (by decide), flowN_of (e_loadC rfl rfl) (by decide), flowN_of (e_loadR rfl rfl) (by decide), flowN_of (e_mul73 rfl rfl rfl (by omega)) (by decide), flowN_of (e_addCC rfl (HSZ.out.1 k d A j (by omega) hlt HR.out.2.2.2.2.2.2) rfl (sz_mul (HA.out.2.2.1 k j (by omega) (by omega)) (HR.out.2.2.2.2.1 j)) rfl (by omega)) (by decide), flowN_of (e_idxC rfl rfl rfl (by omega)) (by decide), trivial⟩
          intro a3 w11 hb11 hsz11 hdf11 hfacts hout _
          have f52 : RatC w11 (a3.tmps.getD 52 undef) (inG st ri (p k) k A j j + st k j * A j) := hfacts 9 52 (by decide) rfl
          have f53 : a3.tmps.getD 53 undef = .pointer (some ⟨wrA.heap.size, 0 + j * 3, none⟩) := hfacts 10 53 (by decide) rfl
          rw [inG_at] at f52
          have hszn : a3.tmps.size = 64 := hsz11
          have hdfn : a3.defers = [] := hdf11
          change runFrom _ _ _ 1 11 a3 w11
          simp only [runFrom]
          refine e_storeU (t := 53) (u := 52) (f' := inG st ri (p k) k A (j + 1)) rfl f53 (H10.out.2.2.2.1.below hb11) (by omega) (by omega) f52 (fun i hi => inG_other hi) fun v0 v1 v2 hU => ?_
          obtain ⟨xs, l1, l2, l3, _⟩ := H10.out.2.2.2.1.below hb11
          have hgr := grown_setL w11 wrA.heap.size (j * 3) v0 v1 v2
          have hX9 := box_kept ((Ke.box _ _).below hb11 H10.out.1) l1 l3 hgr (by simp; exact H10.out.2.2.2.2.2.2.2)
          have hX11 := box_kept ((Ke.box _ _).below hb11 H10.out.2.2.1) l1 l3 hgr (by simp; exact H10.out.2.2.2.2.2.2.1)
          have hbU := below_setL (below_next' H10.out.2.2.2.2.1 hb11) (o := j * 3) (Nat.le_refl _) v0 v1 v2
          have e0 : a3.tmps.getD 0 undef = .slice (some ⟨gp, op, none⟩) n cap := hout 0 (free_of (by kernel_rfl))
          have e1 : a3.tmps.getD 1 undef = .func (.func F) #[] #[] := hout 1 (free_of (by kernel_rfl))
          have e2 : a3.tmps.getD 2 undef = undef := hout 2 (free_of (by kernel_rfl))
          have e3 : a3.tmps.getD 3 undef = undef := hout 3 (free_of (by kernel_rfl))
          have e4 : a3.tmps.getD 4 undef = .slice none 0 0 := hout 4 (free_of (by kernel_rfl))
          have e5 : a3.tmps.getD 5 undef = .slice (some ⟨gs, os, none⟩) d c5 := hout 5 (free_of (by kernel_rfl))
          have e6 : a3.tmps.getD 6 undef = .int .i64 k := hout 6 (free_of (by kernel_rfl))
          have e7 : a3.tmps.getD 7 undef = .slice (some ⟨wrA.heap.size, 0, none⟩) D D := hout 7 (free_of (by kernel_rfl))
          have e8 : a3.tmps.getD 8 undef = .int .i64 j := hout 8 (free_of (by kernel_rfl))
          have e9 : a3.tmps.getD 9 undef = .pointer (some ⟨wr.heap.size, 0, none⟩) := hout 9 (free_of (by kernel_rfl))
          have e10 : a3.tmps.getD 10 undef = .pointer (some ⟨w10.heap.size, 0, none⟩) := hout 10 (free_of (by kernel_rfl))
          have e11 : a3.tmps.getD 11 undef = .pointer (some ⟨w10.heap.size + 1, 0, none⟩) := hout 11 (free_of (by kernel_rfl))
          have e12 : a3.tmps.getD 12 undef = .slice (some ⟨gp, op, none⟩) n cap := hout 12 (free_of (by kernel_rfl))
          have e13 : a3.tmps.getD 13 undef = .int .i64 n := hout 13 (free_of (by kernel_rfl))
          have e14 : a3.tmps.getD 14 undef = .int .i64 ((n : Int) - 1) := hout 14 (free_of (by kernel_rfl))
          have e15 : a3.tmps.getD 15 undef = .int .i64 k := hout 15 (free_of (by kernel_rfl))
          have e16 : a3.tmps.getD 16 undef = .bool true := hout 16 (free_of (by kernel_rfl))
          have e17 : a3.tmps.getD 17 undef = u17 := hout 17 (free_of (by kernel_rfl))
          have e18 : a3.tmps.getD 18 undef = u18 := hout 18 (free_of (by kernel_rfl))
          have e19 : a3.tmps.getD 19 undef = .slice (some ⟨gs, os, none⟩) d c5 := hout 19 (free_of (by kernel_rfl))
          have e20 : a3.tmps.getD 20 undef = .int .i64 d := hout 20 (free_of (by kernel_rfl))
          have e21 : a3.tmps.getD 21 undef = .int .i64 D := hout 21 (free_of (by kernel_rfl))
          have e22 : a3.tmps.getD 22 undef = .slice (some ⟨wrA.heap.size, 0, none⟩) D D := hout 22 (free_of (by kernel_rfl))
          have e23 : a3.tmps.getD 23 undef = .slice (some ⟨wrA.heap.size, 0, none⟩) D D := hout 23 (free_of (by kernel_rfl))
          have e24 : a3.tmps.getD 24 undef = .slice (some ⟨gp, op, none⟩) n cap := hout 24 (free_of (by kernel_rfl))
          have e25 : a3.tmps.getD 25 undef = .int .i64 k := hout 25 (free_of (by kernel_rfl))
          have e26 : a3.tmps.getD 26 undef = .pointer (some ⟨gp, op + k * 3, none⟩) := hout 26 (free_of (by kernel_rfl))
          have e27 : a3.tmps.getD 27 undef = .agg #[.bool s0, .slice m1 m2 m3, .slice m4 m5 m6] := hout 27 (free_of (by kernel_rfl))
          have e28 : a3.tmps.getD 28 undef = .pointer (some ⟨wrA.heap.size, 0, none⟩) := hout 28 (free_of (by kernel_rfl))
          have e29 : a3.tmps.getD 29 undef = .slice (some ⟨gs, os, none⟩) d c5 := hout 29 (free_of (by kernel_rfl))
          have e30 : a3.tmps.getD 30 undef = .int .i64 d := hout 30 (free_of (by kernel_rfl))
          have e31 : a3.tmps.getD 31 undef = .int .i64 j := hout 31 (free_of (by kernel_rfl))
          have e62 : a3.tmps.getD 62 undef = u62 := hout 62 (free_of (by kernel_rfl))
          have e63 : a3.tmps.getD 63 undef = undef := hout 63 (free_of (by kernel_rfl))
          generalize (((w11.setCell ⟨wrA.heap.size, j * 3, none⟩ v0).setCell ⟨wrA.heap.size, j * 3 + 1, none⟩ v1).setCell ⟨wrA.heap.size, j * 3 + 2, none⟩ v2) = w12 at hU hX9 hX11 hbU ⊢
          obtain ⟨g9', x0, x1, x2, ex9, d0, d1, d2, dr, _⟩ := id hX9
          obtain rfl : wr.heap.size = g9' := by simpa using ex9
          obtain ⟨h1, h2, h3, h4, h5, h6, he9, _⟩ := id dr
          obtain ⟨rfl, rfl, rfl⟩ : x0 = .bool (decide ((A j).num < 0)) ∧ x1 = .slice h1 h2 h3 ∧ x2 = .slice h4 h5 h6 := by simpa using he9
          obtain ⟨g11', y0, y1, y2, ex11, k0, k1, k2, kr, _⟩ := id hX11
          obtain rfl : w10.heap.size + 1 = g11' := by simpa using ex11
          obtain ⟨o1, o2, o3, o4, o5, o6, he11, _⟩ := id kr
          obtain ⟨rfl, rfl, rfl⟩ : y0 = .bool (decide ((ri k j).num < 0)) ∧ y1 = .slice o1 o2 o3 ∧ y2 = .slice o4 o5 o6 := by simpa using he11
          obtain ⟨ta, hta⟩ : ∃ s, decide ((A j).num < 0) = s := ⟨_, rfl⟩
          obtain ⟨tr, htr⟩ : ∃ s, decide ((ri k j).num < 0) = s := ⟨_, rfl⟩
          rw [hta] at d0 dr
          rw [htr] at k0 kr
          have H12 := Lib.hid (And.intro hU (And.intro hbU (And.intro dr kr)))
          obtain ⟨uu, hu⟩ : ∃ u : Nat → Value, ∀ t, a3.tmps.getD t undef = u t := ⟨_, fun _ => rfl⟩
          have ha := act_eq a3 64 hszn hdfn
          simp only [hu] at ha e0 e1 e2 e3 e4 e5 e6 e7 e8 e9 e10 e11 e12 e13 e14 e15 e16 e17 e18 e19 e20 e21 e22 e23 e24 e25 e26 e27 e28 e29 e30 e31 e62 e63
          have ha' : a3 = ⟨#[uu 0, uu 1, uu 2, uu 3, uu 4, uu 5, uu 6, uu 7, uu 8, uu 9, uu 10, uu 11, uu 12, uu 13, uu 14, uu 15, uu 16, uu 17, uu 18, uu 19, uu 20, uu 21, uu 22, uu 23, uu 24, uu 25, uu 26, uu 27, uu 28, uu 29, uu 30, uu 31, uu 32, uu 33, uu 34, uu 35, uu 36, uu 37, uu 38, uu 39, uu 40, uu 41, uu 42, uu 43, uu 44, uu 45, uu 46, uu 47, uu 48, uu 49, uu 50, uu 51, uu 52, uu 53, uu 54, uu 55, uu 56, uu 57, uu 58, uu 59, uu 60, uu 61, uu 62, uu 63], []⟩ := ha
          rw [e0, e1, e2, e3, e4, e5, e6, e7, e8, e9, e10, e11, e12, e13, e14, e15, e16, e17, e18, e19, e20, e21, e22, e23, e24, e25, e26, e27, e28, e29, e30, e31, e62, e63] at ha'
          clear ha hu e0 e1 e2 e3 e4 e5 e6 e7 e8 e9 e10 e11 e12 e13 e14 e15 e16 e17 e18 e19 e20 e21 e22 e23 e24 e25 e26 e27 e28 e29 e30 e31 e62 e63 hfacts hout hszn hdfn hsz11 hdf11 f52 f53 hU hX9 hX11 hbU hgr l1 l2 l3 ex9 ex11 he9 he11 dr kr hta htr hb11
          subst ha'
          obtain ⟨J, hJ⟩ : ∃ J, J = j + 1 := ⟨_, rfl⟩
          have hJi : (j : Int) + 1 = (J : Int) := by omega
          have hJlo : j + 1 ≤ J := by omega
          have hJhi : J ≤ j + 1 := by omega
          have HJ := Lib.hid hJ
          clear hJ
          go_wp2_with fail
          refine (mul_a (k := KN + 3) ((H12.out.2.2.2.a (HA.out.2.2.2.1 k j (by omega) (by omega))).le (by omega)) ((H12.out.2.2.1.a (HR.out.2.2.2.2.1 j)).le (by omega)) (by omega)).mono ?_
          rintro e w13 ⟨v13, rfl, hv13, hb13⟩
          rw [← inG_next (st := st) (pk := p k), ← HJ.out] at hv13
          have hT13 := H12.out.1.below hb13
          rw [← HJ.out] at hT13
          have hC := hv13
          obtain ⟨j1, j2, j3, j4, j5, j6, rfl, _⟩ := hv13
          have hT14 := hT13.store (by omega) hC
          obtain ⟨xs, l1x, l2x, l3x, _⟩ := hT13
          have hxl : J * 3 + 2 < xs.length := by omega
          have t0 : w13.cell? ⟨wrA.heap.size, J * 3, none⟩ = some xs[J * 3] := by rw [l1x.cell _ (by omega)]; exact List.getElem?_eq_getElem _
          have t1' : w13.cell? ⟨wrA.heap.size, J * 3 + 1, none⟩ = some xs[J * 3 + 1] := by rw [l1x.cell _ (by omega)]; exact List.getElem?_eq_getElem _
          have t2' : w13.cell? ⟨wrA.heap.size, J * 3 + 2, none⟩ = some xs[J * 3 + 2] := by rw [l1x.cell _ (by omega)]; exact List.getElem?_eq_getElem _
          have f0' := l1x.frozen (J * 3)
          have f1' := l1x.frozen (J * 3 + 1)
          have f2' := l1x.frozen (J * 3 + 2)
          generalize xs[J * 3] = xa' at t0
          generalize xs[J * 3 + 1] = xb' at t1'
          generalize xs[J * 3 + 2] = xc' at t2'
          obtain ⟨s, hs⟩ : ∃ s, decide ((inG st ri (p k) k A J J).num < 0) = s := ⟨_, rfl⟩
          rw [hs] at hT14 ⊢
          have hbel6 := below_setL (below_next' H12.out.2.1 hb13) (o := J * 3) (Nat.le_refl _) (.bool s) (.slice j1 j2 j3) (.slice j4 j5 j6)
          have HN := Lib.hid (And.intro hT14 hbel6)
          clear hC hT14 l1x l2x l3x hxl hbel6 hs hb13 d0 d1 d2 k0 k1 k2
          have hJd : J ≤ d := by omega
          go_wp2
          go_roundw
          case rel => exact ⟨J, hJd, by first | rfl | go_num, HN.out⟩
          case measure => simp [intOf] <;> omega
        · obtain rfl : j = d := by omega
          have hT' : LstI wrA.heap.size wrA.heap.size D (inG st ri (p k) k A j) D wr := by
            have e : D = j + 1 := by omega
            rw [e]
            rw [e] at hT
            exact hT
          have hLL := (hT'.congr HR.out.2.2.2.2.2.1).lst (cap := D) (Nat.le_refl _) (by omega)
          have HN := Lib.hid (And.intro hLL (below_next' HR.out.2.1 hbl))
          clear hT hT' hbl hLL hlt
          go_wp2
          go_roundw
          case rel => exact ⟨D, hDn, by congr 1; omega, by rw [show n - D = k by omega]; exact HN.out.1, HN.out.2⟩
          case measure => simp [intOf] <;> omega
    · obtain rfl : d = n := by omega
      rw [Nat.sub_self] at hS
      have hki : ¬ (0 : Int) ≤ (d : Int) - d - 1 := by omega
      have HN := Lib.hid (And.intro hS hbel)
      clear hS hbel hdn
      go_wp2
      go_ret
      exact ⟨_, rfl, HN.out.1, HN.out.2⟩
end Go.Proofs.Ytdpiclmjdcjajaa

/-
  The walks of Powers and FromPowers. Conditions: at most 33 numbers, whose whole forms have at most 5900 limbs.
-/
namespace Go.Proofs.Ytdpiclmjdcjajaa
open Go.RowKit Num

def stP (k _ : Nat) : Rat := quo (-(k : Int)) ((k : Int) + 1)
def riP (k _ : Nat) : Rat := quo 1 ((k : Int) + 1)
def stF (_ j : Nat) : Rat := quo (j : Int) 1
def riF (_ j : Nat) : Rat := quo ((j : Int) + 1) 1
theorem quo_over (a : Int) (k : Nat) : quo a ((k : Int) + 1) = (a : Rat) / ((k : Rat) + 1) := by
  rw [← quo_div, quo_cast, quo_cast]
  push_cast
  rfl
theorem tG_P : tG stP riP = tk := by
  funext k a i
  unfold tG tk stP riP
  rw [quo_over, quo_over]
  have h := pos_ne k
  have e : (((-(k : Int)) : Int) : Rat) = -(k : Rat) := Rat.intCast_neg _
  rw [e, show ((1 : Int) : Rat) = 1 from rfl]
  split
  · grind
  · grind
theorem tG_F : tG stF riF = mn := by
  funext k a i
  unfold tG mn stF riF
  rw [quo_cast, quo_cast]
  by_cases h : i = 0
  · subst h
    simp
  · obtain ⟨j, rfl⟩ : ∃ j, i = j + 1 := ⟨i - 1, by omega⟩
    rw [if_neg h, if_neg h, Nat.add_sub_cancel]
    push_cast
    rfl
theorem sz_stP {k : Nat} (j : Nat) (hk : k ≤ 100) : Sz (stP k j) 3 := by
  unfold stP
  rw [← quo_div]
  have e : quo (-(k : Int)) 1 = -(quo (k : Int) 1) := by rw [quo_cast, quo_cast]; exact Rat.intCast_neg _
  rw [e]
  exact sz_div (a := 1) (b := 1) (sz_neg (sz_nat (by omega))) (sz_nat (n := k + 1) (by omega))
theorem sz_riP {k : Nat} (j : Nat) (hk : k ≤ 100) : Sz (riP k j) 3 := by
  unfold riP
  rw [← quo_div]
  exact sz_div (a := 1) (b := 1) (sz_nat (n := 1) (by omega)) (sz_nat (n := k + 1) (by omega))
theorem callFunc80 (x y : Value) (w : World) : Sem.run Try.prog (callFunc 80 #[x, y]) w = .ok (.enter 80 #[x, y]) w := by go_simp
theorem callFunc83 (x y : Value) (w : World) : Sem.run Try.prog (callFunc 83 #[x, y]) w = .ok (.enter 83 #[x, y]) w := by go_simp

set_option maxRecDepth 100000 in
set_option maxHeartbeats 4000000 in
theorem stepP_any (k j : Nat) (hk : k ≤ 100) (w : World) : Calls Try.prog 80 #[.int .i64 k, .int .i64 j] w (fun e w' => ∃ u v, e = .returned (.tuple #[u, v]) ∧ RatC w' u (stP k j) ∧ RatC w' v (riP k j) ∧ Below w.heap.size w w') := by
  have hz : (w.alloc (.cells #[.bool false, .slice none 0 0, .slice none 0 0] 24)).heap.size = w.heap.size + 1 := Array.size_push _
  have hb1 := below_alloc1 w (.cells #[.bool false, .slice none 0 0, .slice none 0 0] 24)
  have hb2 := below_alloc1 (w.alloc (.cells #[.bool false, .slice none 0 0, .slice none 0 0] 24)) (.cells #[.bool false, .slice none 0 0, .slice none 0 0] 24)
  have hA := (BoxV.new w w.heap.size 24 (Nat.le_refl _) [.bool false, .slice none 0 0, .slice none 0 0]).below hb2
  have hB := BoxV.new (w.alloc (.cells #[.bool false, .slice none 0 0, .slice none 0 0] 24)) w.heap.size 24 (by rw [hz]; exact Nat.le_succ _) [.bool false, .slice none 0 0, .slice none 0 0]
  rw [hz] at hB
  have HA := Lib.hid (And.intro hA (And.intro hB (below_next' hb1 hb2)))
  clear hz hb1 hb2 hA hB
  have w1' : IntKind.i64.wrap (-(k : Int)) = -(k : Int) := IntWalk.i64_in _ (by omega)
  go_enter Try.func80, Try.ntmps80
  go_wp2_with fail
  refine (small_any (-(k : Int)) ((k : Int) + 1) _ (by omega) (by omega) (by omega) (by omega)).mono ?_
  rintro e w1 ⟨v1, rfl, hv1, hb1⟩
  have H1 := Lib.hid (And.intro hv1 (And.intro (HA.out.1.below hb1) (And.intro (HA.out.2.1.below hb1) (below_next' HA.out.2.2 hb1))))
  obtain ⟨y1, y2, y3, y4, y5, y6, rfl, _⟩ := hv1
  clear hb1
  go_wp2_with fail
  refine (small_any 1 ((k : Int) + 1) _ (by omega) (by omega) (by omega) (by omega)).mono ?_
  rintro e w2 ⟨v2, rfl, hv2, hb2⟩
  have hr1 := H1.out.1.below hb2
  have hX := H1.out.2.1.below hb2
  have hY := H1.out.2.2.1.below hb2
  have hr2 := hv2
  obtain ⟨z1, z2, z3, z4, z5, z6, rfl, _⟩ := hv2
  obtain ⟨⟨a0, a1, a2⟩, a3, a4, a5⟩ := hX.three
  obtain ⟨⟨b0, b1, b2⟩, b3, b4, b5⟩ := hY.three
  obtain ⟨s1, hs1⟩ : ∃ s, decide ((stP k j).num < 0) = s := ⟨_, rfl⟩
  obtain ⟨s2, hs2⟩ : ∃ s, decide ((riP k j).num < 0) = s := ⟨_, rfl⟩
  have hq1 : RatC w2 (.agg #[.bool s1, .slice y1 y2 y3, .slice y4 y5 y6]) (stP k j) := by rw [← hs1]; exact hr1
  have hq2 : RatC w2 (.agg #[.bool s2, .slice z1 z2 z3, .slice z4 z5 z6]) (riP k j) := by rw [← hs2]; exact hr2
  have e1 : decide ((quo (-(k : Int)) ((k : Int) + 1)).num < 0) = s1 := hs1
  have e2 : decide ((quo 1 ((k : Int) + 1)).num < 0) = s2 := hs2
  rw [e1, e2]
  have g1 := grown_set3 w2 w.heap.size (.bool s1) (.slice y1 y2 y3) (.slice y4 y5 y6)
  have hX1 := hX.store3 (.bool s1) (.slice y1 y2 y3) (.slice y4 y5 y6)
  have hY1 := hY.kept g1 (by simp)
  have hq1a := hq1.other hX noLimb_nil3 g1
  have hq2a := hq2.other hX noLimb_nil3 g1
  have hbe1 := below_set3 (below_next' H1.out.2.2.2 hb2) hX.block.1 (.bool s1) (.slice y1 y2 y3) (.slice y4 y5 y6)
  have hne : w.heap.size + 1 ≠ w.heap.size := by omega
  obtain ⟨W3, hW3⟩ : ∃ W, (((w2.setCell ⟨w.heap.size, 0, none⟩ (.bool s1)).setCell ⟨w.heap.size, 1, none⟩ (.slice y1 y2 y3)).setCell ⟨w.heap.size, 2, none⟩ (.slice y4 y5 y6)) = W := ⟨_, rfl⟩
  rw [hW3] at g1 hX1 hY1 hq1a hq2a hbe1
  have g2 := grown_set3 W3 (w.heap.size + 1) (.bool s2) (.slice z1 z2 z3) (.slice z4 z5 z6)
  have hX2 := hX1.kept g2 (by simp)
  have hY2 := hY1.store3 (.bool s2) (.slice z1 z2 z3) (.slice z4 z5 z6)
  have hq1b := hq1a.other hY1 noLimb_nil3 g2
  have hq2b := hq2a.other hY1 noLimb_nil3 g2
  have hbe2 := below_set3 hbe1 hY1.block.1 (.bool s2) (.slice z1 z2 z3) (.slice z4 z5 z6)
  obtain ⟨⟨x0, x1, x2⟩, _⟩ := hX2.three
  obtain ⟨⟨u0, u1, u2⟩, _⟩ := hY2.three
  rw [← hW3] at x0 x1 x2 u0 u1 u2
  have HF := Lib.hid (And.intro hq1b (And.intro hq2b (And.intro hbe2 hW3)))
  clear hr1 hX hY hr2 hs1 hs2 hq1 hq2 e1 e2 g1 hX1 hY1 hq1a hq2a hbe1 g2 hX2 hY2 hq1b hq2b hbe2 hb2 hW3
  go_wp2
  refine bodyPost_ret (v := .tuple #[.agg #[.bool s1, .slice y1 y2 y3, .slice y4 y5 y6], .agg #[.bool s2, .slice z1 z2 z3, .slice z4 z5 z6]]) (by simp [results, Try.results80, go_sem, x0, x1, x2, u0, u1, u2]) rfl ⟨_, _, rfl, ?_⟩
  have h := HF.out
  rw [← h.2.2.2] at h
  exact ⟨h.1, h.2.1, h.2.2.1⟩

set_option maxRecDepth 100000 in
set_option maxHeartbeats 4000000 in
theorem stepF_any (k j : Nat) (hj : j ≤ 100) (w : World) : Calls Try.prog 83 #[.int .i64 k, .int .i64 j] w (fun e w' => ∃ u v, e = .returned (.tuple #[u, v]) ∧ RatC w' u (stF k j) ∧ RatC w' v (riF k j) ∧ Below w.heap.size w w') := by
  have hz : (w.alloc (.cells #[.bool false, .slice none 0 0, .slice none 0 0] 24)).heap.size = w.heap.size + 1 := Array.size_push _
  have hb1 := below_alloc1 w (.cells #[.bool false, .slice none 0 0, .slice none 0 0] 24)
  have hb2 := below_alloc1 (w.alloc (.cells #[.bool false, .slice none 0 0, .slice none 0 0] 24)) (.cells #[.bool false, .slice none 0 0, .slice none 0 0] 24)
  have hA := (BoxV.new w w.heap.size 24 (Nat.le_refl _) [.bool false, .slice none 0 0, .slice none 0 0]).below hb2
  have hB := BoxV.new (w.alloc (.cells #[.bool false, .slice none 0 0, .slice none 0 0] 24)) w.heap.size 24 (by rw [hz]; exact Nat.le_succ _) [.bool false, .slice none 0 0, .slice none 0 0]
  rw [hz] at hB
  have HA := Lib.hid (And.intro hA (And.intro hB (below_next' hb1 hb2)))
  clear hz hb1 hb2 hA hB
  go_enter Try.func83, Try.ntmps83
  go_wp2_with fail
  refine (fromInt_any (j : Int) _ (by omega) (by omega)).mono ?_
  rintro e w1 ⟨v1, rfl, hv1, hb1⟩
  have H1 := Lib.hid (And.intro hv1 (And.intro (HA.out.1.below hb1) (And.intro (HA.out.2.1.below hb1) (below_next' HA.out.2.2 hb1))))
  obtain ⟨y1, y2, y3, y4, y5, y6, rfl, _⟩ := hv1
  clear hb1
  go_wp2_with fail
  refine (fromInt_any ((j : Int) + 1) _ (by omega) (by omega)).mono ?_
  rintro e w2 ⟨v2, rfl, hv2, hb2⟩
  have hr1 := H1.out.1.below hb2
  have hX := H1.out.2.1.below hb2
  have hY := H1.out.2.2.1.below hb2
  have hr2 := hv2
  obtain ⟨z1, z2, z3, z4, z5, z6, rfl, _⟩ := hv2
  obtain ⟨⟨a0, a1, a2⟩, a3, a4, a5⟩ := hX.three
  obtain ⟨⟨b0, b1, b2⟩, b3, b4, b5⟩ := hY.three
  obtain ⟨s1, hs1⟩ : ∃ s, decide ((stF k j).num < 0) = s := ⟨_, rfl⟩
  obtain ⟨s2, hs2⟩ : ∃ s, decide ((riF k j).num < 0) = s := ⟨_, rfl⟩
  have hq1 : RatC w2 (.agg #[.bool s1, .slice y1 y2 y3, .slice y4 y5 y6]) (stF k j) := by rw [← hs1]; exact hr1
  have hq2 : RatC w2 (.agg #[.bool s2, .slice z1 z2 z3, .slice z4 z5 z6]) (riF k j) := by rw [← hs2]; exact hr2
  have e1 : decide ((quo (j : Int) 1).num < 0) = s1 := hs1
  have e2 : decide ((quo ((j : Int) + 1) 1).num < 0) = s2 := hs2
  rw [e1, e2]
  have g1 := grown_set3 w2 w.heap.size (.bool s1) (.slice y1 y2 y3) (.slice y4 y5 y6)
  have hX1 := hX.store3 (.bool s1) (.slice y1 y2 y3) (.slice y4 y5 y6)
  have hY1 := hY.kept g1 (by simp)
  have hq1a := hq1.other hX noLimb_nil3 g1
  have hq2a := hq2.other hX noLimb_nil3 g1
  have hbe1 := below_set3 (below_next' H1.out.2.2.2 hb2) hX.block.1 (.bool s1) (.slice y1 y2 y3) (.slice y4 y5 y6)
  have hne : w.heap.size + 1 ≠ w.heap.size := by omega
  obtain ⟨W3, hW3⟩ : ∃ W, (((w2.setCell ⟨w.heap.size, 0, none⟩ (.bool s1)).setCell ⟨w.heap.size, 1, none⟩ (.slice y1 y2 y3)).setCell ⟨w.heap.size, 2, none⟩ (.slice y4 y5 y6)) = W := ⟨_, rfl⟩
  rw [hW3] at g1 hX1 hY1 hq1a hq2a hbe1
  have g2 := grown_set3 W3 (w.heap.size + 1) (.bool s2) (.slice z1 z2 z3) (.slice z4 z5 z6)
  have hX2 := hX1.kept g2 (by simp)
  have hY2 := hY1.store3 (.bool s2) (.slice z1 z2 z3) (.slice z4 z5 z6)
  have hq1b := hq1a.other hY1 noLimb_nil3 g2
  have hq2b := hq2a.other hY1 noLimb_nil3 g2
  have hbe2 := below_set3 hbe1 hY1.block.1 (.bool s2) (.slice z1 z2 z3) (.slice z4 z5 z6)
  obtain ⟨⟨x0, x1, x2⟩, _⟩ := hX2.three
  obtain ⟨⟨u0, u1, u2⟩, _⟩ := hY2.three
  rw [← hW3] at x0 x1 x2 u0 u1 u2
  have HF := Lib.hid (And.intro hq1b (And.intro hq2b (And.intro hbe2 hW3)))
  clear hr1 hX hY hr2 hs1 hs2 hq1 hq2 e1 e2 g1 hX1 hY1 hq1a hq2a hbe1 g2 hX2 hY2 hq1b hq2b hbe2 hb2 hW3
  go_wp2
  refine bodyPost_ret (v := .tuple #[.agg #[.bool s1, .slice y1 y2 y3, .slice y4 y5 y6], .agg #[.bool s2, .slice z1 z2 z3, .slice z4 z5 z6]]) (by simp [results, Try.results83, go_sem, x0, x1, x2, u0, u1, u2]) rfl ⟨_, _, rfl, ?_⟩
  have h := HF.out
  rw [← h.2.2.2] at h
  exact ⟨h.1, h.2.1, h.2.2.1⟩

end Go.Proofs.Ytdpiclmjdcjajaa

/-
  The walks of Powers and FromPowers. Conditions: at most 33 numbers, whose whole forms have at most 5900 limbs.
-/
namespace Go.Proofs.Ytdpiclmjdcjajaa
open Go.RowKit Num

/-! Sizes -/
def dnP : Nat → Nat → Nat
  | _, 0 => 1
  | k, d + 1 => (k + 1) * dnP (k + 1) d
theorem dnP_pos : ∀ d k, 0 < dnP k d
  | 0, _ => Nat.one_pos
  | d + 1, k => Nat.mul_pos (Nat.succ_pos k) (dnP_pos d (k + 1))
theorem dnP_fac : ∀ d k, fac k * dnP k d = fac (k + d)
  | 0, k => by show fac k * 1 = fac k; rw [Nat.mul_one]
  | d + 1, k => by
    show fac k * ((k + 1) * dnP (k + 1) d) = fac (k + (d + 1))
    rw [← Nat.mul_assoc, show fac k * (k + 1) = fac (k + 1) from rfl, dnP_fac d (k + 1), show k + 1 + d = k + (d + 1) by omega]
theorem dnP_le (k d : Nat) : dnP k d ≤ fac (k + d) := by
  rw [← dnP_fac d k]
  exact Nat.le_mul_of_pos_left _ (fac_pos k)
theorem wh_tk {D B k : Nat} {a : Nat → Rat} (h : ∀ i, Wh D B (a i)) (i : Nat) : Wh ((k + 1) * D) ((k + 1) * B) (tk k a i) := by
  have h1 : Wh D B (if i = 0 then 0 else a (i - 1)) := by
    split
    · exact wh_zero D B
    · exact h (i - 1)
  obtain ⟨z1, e1, b1⟩ := h1
  obtain ⟨z2, e2, b2⟩ := h i
  refine ⟨z1 - k * z2, ?_, ?_⟩
  · unfold tk
    have hp := pos_ne k
    have e3 : (((z1 - k * z2 : Int)) : Rat) = (z1 : Rat) - (k : Rat) * (z2 : Rat) := by push_cast; rfl
    rw [e3, ← e1, ← e2]
    have e4 : (((k + 1) * D : Nat) : Rat) = ((k : Rat) + 1) * (D : Rat) := by push_cast; rfl
    rw [e4]
    grind
  · have h3 : (z1 - k * z2).natAbs ≤ z1.natAbs + (k * z2 : Int).natAbs := by omega
    rw [Int.natAbs_mul, Int.natAbs_natCast] at h3
    have h4 := Nat.mul_le_mul_left k b2
    rw [Nat.succ_mul]
    omega
theorem wh_nstP {p : Nat → Rat} {B n : Nat} (hp : ∀ i, i < n → Wh 1 B (p i)) : ∀ d k, k + d = n → ∀ i, Wh (dnP k d) (B * dnP k d * d) (nst tk p k d i)
  | 0, _, _, _ => wh_zero _ _
  | d + 1, k, h, i => by
    have h1 := wh_tk (k := k) (wh_nstP hp d (k + 1) (by omega)) i
    have h2 : Wh (dnP k (d + 1)) (B * dnP k (d + 1)) (if i = 0 then p k else 0) := by
      split
      · have := (hp k (by omega)).scale (dnP k (d + 1))
        rw [Nat.one_mul] at this
        exact this
      · exact wh_zero _ _
    have h3 : Wh (dnP k (d + 1)) ((k + 1) * (B * dnP (k + 1) d * d)) (tk k (nst tk p (k + 1) d) i) := h1
    refine (h2.add h3).le (Nat.le_of_eq ?_)
    show B * ((k + 1) * dnP (k + 1) d) + (k + 1) * (B * dnP (k + 1) d * d) = B * ((k + 1) * dnP (k + 1) d) * (d + 1)
    rw [Nat.mul_succ, Nat.add_comm]
    congr 1
    rw [Nat.mul_left_comm B (k + 1), Nat.mul_assoc (k + 1)]
theorem sz_nstP {p : Nat → Rat} {kP n : Nat} (hn : n ≤ 33) (hp : ∀ i, i < n → Wh 1 (pw kP) (p i)) {d k : Nat} (h : k + d = n) (i : Nat) : Sz (nst tk p k d i) (kP + 7) := by
  have h0 : dnP k d < pw 5 := Nat.lt_of_le_of_lt (dnP_le k d) (fac_lt33 (by omega))
  refine (wh_nstP hp d k h i).sz (dnP_pos d k) (Nat.lt_of_lt_of_le h0 (pw_le (by omega))) ?_ (by omega)
  have h1 : pw kP * dnP k d * d ≤ pw kP * pw 5 * pw 1 := Nat.mul_le_mul (Nat.mul_le_mul_left _ (Nat.le_of_lt h0)) (Nat.le_trans (show d ≤ 33 by omega) (by unfold pw; decide))
  rw [← pw_add, ← pw_add] at h1
  exact Nat.lt_of_le_of_lt h1 (pw_lt (by omega))
theorem wh_nstF {p : Nat → Rat} {B n : Nat} (hn : n ≤ 33) (hp : ∀ i, i < n → Wh 1 B (p i)) : ∀ d k, k + d = n → ∀ i, Wh 1 (B * 68 ^ d) (nst mn p k d i)
  | 0, _, _, _ => wh_zero _ _
  | d + 1, k, h, i => by
    by_cases hi : d + 1 ≤ i
    · rw [nst_none mn p mn_none (d + 1) k i hi]
      exact wh_zero _ _
    have ih := wh_nstF hn hp d (k + 1) (by omega)
    have h2 : Wh 1 B (if i = 0 then p k else 0) := by
      split
      · exact hp k (by omega)
      · exact wh_zero _ _
    have h1 : Wh 1 (B * 68 ^ d) (if i = 0 then 0 else nst mn p (k + 1) d (i - 1)) := by
      split
      · exact wh_zero _ _
      · exact ih (i - 1)
    have hI : Wh 1 33 (i : Rat) := (wh_int (i : Int)).le (by rw [Int.natAbs_natCast]; omega)
    have h3 := (hI.mul h1).add (hI.mul (ih i))
    have h4 : Wh 1 (B + (33 * (B * 68 ^ d) + 33 * (B * 68 ^ d))) (nst mn p k (d + 1) i) := h2.add h3
    refine h4.le ?_
    rw [Nat.pow_succ]
    have : 1 ≤ 68 ^ d := Nat.one_le_pow _ _ (by omega)
    have h5 := Nat.mul_le_mul_left B this
    rw [← Nat.mul_assoc B (68 ^ d) 68]
    generalize B * 68 ^ d = X at h5 ⊢
    omega
theorem sz_nstF {p : Nat → Rat} {kP n : Nat} (hn : n ≤ 33) (hp : ∀ i, i < n → Wh 1 (pw kP) (p i)) {d k : Nat} (h : k + d = n) (i : Nat) : Sz (nst mn p k d i) (kP + 8) := by
  refine sz_le (sz_of_wh1 ((wh_nstF hn hp d k h i).le (B' := pw (kP + 7)) ?_)) (by omega)
  rw [pw_add]
  refine Nat.mul_le_mul_left _ (Nat.le_trans (Nat.pow_le_pow_right (by omega) (show d ≤ 33 by omega)) ?_)
  unfold pw
  decide +kernel
theorem nst_scale (st ri : Nat → Nat → Rat) (p : Nat → Rat) (c : Rat) : ∀ d k i, nst (tG st ri) (fun i => p i * c) k d i = nst (tG st ri) p k d i * c
  | 0, _, _ => (Rat.zero_mul _).symm
  | d + 1, k, i => by
    show (if i = 0 then p k * c else 0) + ((if i = 0 then 0 else ri k (i - 1) * nst (tG st ri) (fun i => p i * c) (k + 1) d (i - 1)) + st k i * nst (tG st ri) (fun i => p i * c) (k + 1) d i) = ((if i = 0 then p k else 0) + ((if i = 0 then 0 else ri k (i - 1) * nst (tG st ri) p (k + 1) d (i - 1)) + st k i * nst (tG st ri) p (k + 1) d i)) * c
    rw [nst_scale st ri p c d (k + 1) i, nst_scale st ri p c d (k + 1) (i - 1)]
    by_cases h : i = 0
    · rw [if_pos h, if_pos h, if_pos h]; grind
    · rw [if_neg h, if_neg h, if_neg h]; grind

theorem run_call78 (a : Act) (d : Option Tmp) (ty : TypeId) (pos : String) (es : Array Edge) (t u : Tmp) (w : World) (x : Value) (h : a.tmps.getD t undef = .func (.func 78) #[] #[]) (h' : a.tmps.getD u undef = x) :
    Sem.run Try.prog (execOp a.eval ⟨d, .call ⟨.value (.tmp t), #[.tmp u], #[32]⟩, ty, pos, es, none⟩) w = .ok (.enter 78 #[x]) w := by go_simp
set_option maxRecDepth 100000 in
theorem powersclo_any (a : Option Addr) (n cap kP : Nat) (P : Nat → Rat) (w : World) (hn : n ≤ 33) (hl : Lst w (.slice a n cap) n P) (hp : ∀ i, i < n → Wh 1 (pw kP) (P i)) (hk : kP ≤ 5900) :
    Calls Try.prog 78 #[.slice a n cap] w (fun e w' => ∃ v, e = .returned v ∧ Lst w' v n (nst tk P 0 n) ∧ Below w.heap.size w w') := by
  have hc := nest_any a n cap (kP + 8) P 80 stP riP w hn hl ⟨callFunc80, fun w k j h1 h2 => stepP_any k j (by omega) w⟩ (fun k j h1 h2 => sz_stP j (by omega)) (fun k j h1 h2 => sz_riP j (by omega)) (fun k d i h => by rw [tG_P]; exact sz_le (sz_nstP hn hp h i) (by omega)) (fun i hi => sz_le (sz_of_wh1 (hp i hi)) (by omega)) (by omega)
  rw [tG_P] at hc
  obtain ⟨H, hH⟩ : ∃ H, nst tk P 0 n = H := ⟨_, rfl⟩
  rw [hH] at hc ⊢
  have HA := Lib.hid hc
  clear hc hl hp hH
  go_enter Try.func78, Try.ntmps78
  go_wp2_with fail
  refine HA.out.mono ?_
  rintro e w1 ⟨v, rfl, hv, hb1⟩
  have HF := Lib.hid (And.intro hv hb1)
  clear hv hb1
  go_wp2
  go_ret
  exact ⟨_, rfl, HF.out.1, HF.out.2⟩
set_option maxRecDepth 100000 in
theorem powers_gen (a : Option Addr) (n cap kl kz KS kP : Nat) (f : Nat → Rat) (w : World) (hn : n ≤ 33) (hl : LstA w (.slice a n cap) n kl f) (hf : ∀ i, i < n → Sz (f i) kz) (hk1 : 1 ≤ kz) (hkk : kl ≤ kz) (hKS : kz * n + 1 ≤ KS) (hKz : KS + kz ≤ 5000)
    (hp : ∀ i, i < n → Wh 1 (pw kP) (f i * ((scl f n : Nat) : Rat))) (hk : kP ≤ 4000) :
    Calls Try.prog 38 #[.slice a n cap] w (ListB (trimN (nst tk f 0 n) n) (nst tk f 0 n) true w) := by
  have hF : FunOk (.func (.func 78) #[] #[]) 78 (fun x => #[x]) n (fun i => f i * ((scl f n : Nat) : Rat)) n (nst tk (fun i => f i * ((scl f n : Nat) : Rat)) 0 n) w :=
    ⟨fun a d ty pos es t u w x h h' => run_call78 a d ty pos es t u w x h h', fun w' b c hb h => powersclo_any b n c kP _ w' hn h hp (by omega)⟩
  have hc := transform_gen a n cap n (kP + 8) kl kz KS f (nst tk (fun i => f i * ((scl f n : Nat) : Rat)) 0 n) (.func (.func 78) #[] #[]) 78 (fun x => #[x]) w hn hl hf hk1 hkk hKS hKz hF (by omega) (fun i _ => sz_le (sz_nstP hn hp (show 0 + n = n by omega) i) (by omega)) (by omega)
  have e : (fun k => nst tk (fun i => f i * ((scl f n : Nat) : Rat)) 0 n k * (1 / ((scl f n : Nat) : Rat))) = nst tk f 0 n := funext fun k => by
    rw [← tG_P, nst_scale, over_scale (scl_ne f n)]
  rw [e] at hc
  obtain ⟨H, hH⟩ : ∃ H, nst tk f 0 n = H := ⟨_, rfl⟩
  rw [hH] at hc ⊢
  have HA := Lib.hid hc
  clear hc hF e hl hf hH hp
  go_enter Try.func38, Try.ntmps38
  go_wp2_with fail
  refine HA.out.mono ?_
  rintro e w1 ⟨v, rfl, hv, hb1⟩
  have HF := Lib.hid (And.intro hv hb1)
  clear hv hb1
  go_wp2
  go_ret2
  exact ⟨_, rfl, HF.out.1, HF.out.2⟩
theorem powers_in (a : Option Addr) (n cap : Nat) (f : Nat → Rat) (w : World) (hn : n ≤ 33) (hl : LstA w (.slice a n cap) n 8 f) (hf : ∀ i, i < n → Sz (f i) 9) : Calls Try.prog 38 #[.slice a n cap] w (ListB (trimN (nst tk f 0 n) n) (nst tk f 0 n) true w) :=
  powers_gen a n cap 8 9 298 308 f w hn hl hf (by omega) (by omega) (by omega) (by omega) (fun i hi => wh_scl hf hi hn) (by omega)
set_option maxRecDepth 100000 in
theorem powers_out (a : Option Addr) (n cap : Nat) (F : Nat → Rat) (w : World) (m1 : n ≤ 9223372036854775807) (h : 33 < n) : Calls Try.prog 38 #[.slice a n cap] w (ListB 0 F false w) := by
  have HA := Lib.hid (transform_out a n cap (.func (.func 78) #[] #[]) F w m1 h)
  go_enter Try.func38, Try.ntmps38
  go_wp2_with fail
  refine HA.out.mono ?_
  rintro e w1 ⟨v, rfl, hv, hb1⟩
  have HF := Lib.hid (And.intro hv hb1)
  clear hv hb1
  go_wp2
  go_ret2
  exact ⟨_, rfl, HF.out.1, HF.out.2⟩

theorem run_call82 (a : Act) (d : Option Tmp) (ty : TypeId) (pos : String) (es : Array Edge) (t u : Tmp) (w : World) (x : Value) (h : a.tmps.getD t undef = .func (.func 82) #[] #[]) (h' : a.tmps.getD u undef = x) :
    Sem.run Try.prog (execOp a.eval ⟨d, .call ⟨.value (.tmp t), #[.tmp u], #[32]⟩, ty, pos, es, none⟩) w = .ok (.enter 82 #[x]) w := by go_simp
set_option maxRecDepth 100000 in
theorem fromPclo_any (a : Option Addr) (n cap kP : Nat) (P : Nat → Rat) (w : World) (hn : n ≤ 33) (hl : Lst w (.slice a n cap) n P) (hp : ∀ i, i < n → Wh 1 (pw kP) (P i)) (hk : kP ≤ 5900) :
    Calls Try.prog 82 #[.slice a n cap] w (fun e w' => ∃ v, e = .returned v ∧ Lst w' v n (nst mn P 0 n) ∧ Below w.heap.size w w') := by
  have hc := nest_any a n cap (kP + 8) P 83 stF riF w hn hl ⟨callFunc83, fun w k j h1 h2 => stepF_any k j (by omega) w⟩ (fun k j h1 h2 => sz_int (by omega) (by omega)) (fun k j h1 h2 => sz_int (by omega) (by omega)) (fun k d i h => by rw [tG_F]; exact sz_le (sz_nstF hn hp h i) (by omega)) (fun i hi => sz_le (sz_of_wh1 (hp i hi)) (by omega)) (by omega)
  rw [tG_F] at hc
  obtain ⟨H, hH⟩ : ∃ H, nst mn P 0 n = H := ⟨_, rfl⟩
  rw [hH] at hc ⊢
  have HA := Lib.hid hc
  clear hc hl hp hH
  go_enter Try.func82, Try.ntmps82
  go_wp2_with fail
  refine HA.out.mono ?_
  rintro e w1 ⟨v, rfl, hv, hb1⟩
  have HF := Lib.hid (And.intro hv hb1)
  clear hv hb1
  go_wp2
  go_ret
  exact ⟨_, rfl, HF.out.1, HF.out.2⟩
set_option maxRecDepth 100000 in
theorem fromP_gen (a : Option Addr) (n cap kl kz KS kP : Nat) (f : Nat → Rat) (w : World) (hn : n ≤ 33) (hl : LstA w (.slice a n cap) n kl f) (hf : ∀ i, i < n → Sz (f i) kz) (hk1 : 1 ≤ kz) (hkk : kl ≤ kz) (hKS : kz * n + 1 ≤ KS) (hKz : KS + kz ≤ 5000)
    (hp : ∀ i, i < n → Wh 1 (pw kP) (f i * ((scl f n : Nat) : Rat))) (hk : kP ≤ 4000) :
    Calls Try.prog 40 #[.slice a n cap] w (ListB (trimN (nst mn f 0 n) n) (nst mn f 0 n) true w) := by
  have hF : FunOk (.func (.func 82) #[] #[]) 82 (fun x => #[x]) n (fun i => f i * ((scl f n : Nat) : Rat)) n (nst mn (fun i => f i * ((scl f n : Nat) : Rat)) 0 n) w :=
    ⟨fun a d ty pos es t u w x h h' => run_call82 a d ty pos es t u w x h h', fun w' b c hb h => fromPclo_any b n c kP _ w' hn h hp (by omega)⟩
  have hc := transform_gen a n cap n (kP + 8) kl kz KS f (nst mn (fun i => f i * ((scl f n : Nat) : Rat)) 0 n) (.func (.func 82) #[] #[]) 82 (fun x => #[x]) w hn hl hf hk1 hkk hKS hKz hF (by omega) (fun i _ => sz_le (sz_nstF hn hp (show 0 + n = n by omega) i) (by omega)) (by omega)
  have e : (fun k => nst mn (fun i => f i * ((scl f n : Nat) : Rat)) 0 n k * (1 / ((scl f n : Nat) : Rat))) = nst mn f 0 n := funext fun k => by
    rw [← tG_F, nst_scale, over_scale (scl_ne f n)]
  rw [e] at hc
  obtain ⟨H, hH⟩ : ∃ H, nst mn f 0 n = H := ⟨_, rfl⟩
  rw [hH] at hc ⊢
  have HA := Lib.hid hc
  clear hc hF e hl hf hH hp
  go_enter Try.func40, Try.ntmps40
  go_wp2_with fail
  refine HA.out.mono ?_
  rintro e w1 ⟨v, rfl, hv, hb1⟩
  have HF := Lib.hid (And.intro hv hb1)
  clear hv hb1
  go_wp2
  go_ret2
  exact ⟨_, rfl, HF.out.1, HF.out.2⟩
theorem fromP_in (a : Option Addr) (n cap : Nat) (f : Nat → Rat) (w : World) (hn : n ≤ 33) (hl : LstA w (.slice a n cap) n 8 f) (hf : ∀ i, i < n → Sz (f i) 9) : Calls Try.prog 40 #[.slice a n cap] w (ListB (trimN (nst mn f 0 n) n) (nst mn f 0 n) true w) :=
  fromP_gen a n cap 8 9 298 308 f w hn hl hf (by omega) (by omega) (by omega) (by omega) (fun i hi => wh_scl hf hi hn) (by omega)
set_option maxRecDepth 100000 in
theorem fromP_out (a : Option Addr) (n cap : Nat) (F : Nat → Rat) (w : World) (m1 : n ≤ 9223372036854775807) (h : 33 < n) : Calls Try.prog 40 #[.slice a n cap] w (ListB 0 F false w) := by
  have HA := Lib.hid (transform_out a n cap (.func (.func 82) #[] #[]) F w m1 h)
  go_enter Try.func40, Try.ntmps40
  go_wp2_with fail
  refine HA.out.mono ?_
  rintro e w1 ⟨v, rfl, hv, hb1⟩
  have HF := Lib.hid (And.intro hv hb1)
  clear hv hb1
  go_wp2
  go_ret2
  exact ⟨_, rfl, HF.out.1, HF.out.2⟩

end Go.Proofs.Ytdpiclmjdcjajaa

/-
  The walk of the reference's FromPowers. Condition: numbers of at most 8 limbs.
-/
namespace Go.Proofs.Ytdpiclmjdcjajaa
open Go.RowKit Num

theorem wh_powQ (q : Nat) : ∀ k, Wh 1 (q ^ k) (powQ (q : Rat) k)
  | 0 => (wh_int 1).le (by rw [Nat.pow_zero]; decide)
  | k + 1 => (wh_powQ q k).mul ((wh_int (q : Int)).le (by rw [Int.natAbs_natCast]; exact Nat.le_refl _))
theorem pow33_le {q k : Nat} (hq : q ≤ 33) (hk : k ≤ 33) : q ^ k ≤ pw 6 := by
  refine Nat.le_trans (Nat.pow_le_pow_left hq k) (Nat.le_trans (Nat.pow_le_pow_right (by omega) hk) ?_)
  unfold pw
  decide +kernel
theorem sz_powQ {q k : Nat} (hq : q ≤ 33) (hk : k ≤ 33) : Sz (powQ (q : Rat) k) 7 := sz_of_wh1 ((wh_powQ q k).le (pow33_le hq hk))
/-- The value of a polynomial given in powers. -/
def vP (f : Nat → Rat) (n : Nat) : Nat → Rat := fun q => sumN (fun k => f k * powQ (q : Rat) k) n
theorem sz_difsP {f : Nat → Rat} {n : Nat} (hf : ∀ i, i < n → Sz (f i) 9) (hn : n ≤ 33) {j i : Nat} (h : j + i < n) : Sz (difs (vP f n) j i) 319 := by
  obtain ⟨E, hE⟩ : ∃ E, 9 * 34 + 2 = E := ⟨_, rfl⟩
  refine sz_difs (D := scl f n) (k := 316) (fun q hq => ?_) (scl_pos f n) (Nat.lt_of_lt_of_le (scl_lt hf n (Nat.le_refl _)) (pw_le (by omega))) hn h
  have h1 := wh_sum (D := scl f n) (B := pw E * pw 6) (f := fun k => f k * powQ (q : Rat) k) n fun k hk => by
    have := (wh_over hf hk hn).mul ((wh_powQ q k).le (pow33_le (q := q) (k := k) (by omega) (by omega)))
    rw [Nat.mul_one, hE] at this
    exact this
  refine h1.le ?_
  rw [← pw_add]
  exact Nat.le_trans (Nat.mul_le_mul_right _ (Nat.le_trans hn (show 33 ≤ pw 1 by unfold pw; decide))) (by rw [← pw_add]; exact pw_le (by omega))
theorem RtO.keep {w w3 : World} {g g2 B : Nat} {s : Rat} {x y z v0 v1 v2 : Value} (h : RtO w g s w3) (hB : BoxV w3 B g2 24 [x, y, z]) (hx : NoLimb [x, y, z]) (hne : g ≠ g2) : RtO w g s (((w3.setCell ⟨g2, 0, none⟩ v0).setCell ⟨g2, 1, none⟩ v1).setCell ⟨g2, 2, none⟩ v2) := by
  obtain ⟨an, ln, cn, ad, ld, cd, h1, h2⟩ := h
  have hgr := grown_set3 w3 g2 v0 v1 v2
  exact ⟨an, ln, cn, ad, ld, cd, h1.kept hgr (by simpa using hne), h2.other hB hx hgr⟩
theorem RtO.below {w w3 w4 : World} {g : Nat} {s : Rat} (h : RtO w g s w3) (hb : Below w3.heap.size w3 w4) : RtO w g s w4 := by
  obtain ⟨an, ln, cn, ad, ld, cd, h1, h2⟩ := h
  exact ⟨an, ln, cn, ad, ld, cd, h1.below hb, h2.below hb⟩
theorem RtO.box {w w3 : World} {g k : Nat} {s : Rat} (h : RtO w g s w3) (hs : Sz s k) : (Ke.box k s).holds w3 (.pointer (some ⟨g, 0, none⟩)) := by
  obtain ⟨an, ln, cn, ad, ld, cd, h1, h2⟩ := h
  exact boxC_of h1 h2 hs

def fp11 (u : Value) (n k : Nat) (f : Nat → Rat) (s x : Rat) : Tmp → Ke := fun t => ([.lsa u n 8 f, .any, .any, .any, .any, .any, .box 600 s, .box 7 x, .con (.int .i64 k), .any, .any, .any, .any, .any, .any, .any, .any, .any, .any, .any, .any, .any, .any, .any, .any, .any, .ra 600 s, .lsa u n 8 f, .con (.int .i64 k), .elA 8 (f k), .ra 8 (f k), .rc 7 x, .rc 17 (f k * x), .ratC (s + f k * x)] : List Ke).getD t .any
def fp12 (q : Nat) (x : Rat) : Tmp → Ke := fun t => ([.any, .any, .any, .any, .any, .con (.int .i64 q), .any, .box 7 x, .any, .any, .any, .any, .any, .any, .any, .any, .any, .any, .any, .any, .any, .any, .any, .any, .any, .any, .any, .any, .any, .any, .any, .any, .any, .any, .ra 7 x, .con (.int .i64 q), .rc 3 (quo (q : Int) 1), .ratC (x * quo (q : Int) 1)] : List Ke).getD t .any

set_option maxRecDepth 100000 in
set_option maxHeartbeats 16000000 in
theorem refFromP_in (a : Option Addr) (n cap : Nat) (f : Nat → Rat) (w : World) (hn : n ≤ 33) (hl : LstA w (.slice a n cap) n 8 f) (hf : ∀ i, i < n → Sz (f i) 9) :
    Calls Try.prog 41 #[.slice a n cap] w (ListB (trimN (nst mn f 0 n) n) (nst mn f 0 n) true w) := by
  have hdif : ∀ k, k < n → difs (vP f n) k 0 = nst mn f 0 n k := fun k hk => by
    have := difs_powers f n k
    rw [if_pos hk] at this
    exact this
  have hsV : ∀ j i, j + i < n → Sz (difs (vP f n) j i) 319 := fun j i h => sz_difsP hf hn h
  have hsum : ∀ q k : Nat, q ≤ 33 → k ≤ n → Sz (sumN (fun k => f k * powQ (q : Rat) k) k) 600 := fun q k hq hk => sz_le (sz_sumK (n := n) (K := 17) (fun i hi => sz_le (sz_mul (hf i hi) (sz_powQ hq (by omega))) (by omega)) k hk) (by omega)
  have hval : ∀ q : Nat, sumN (fun k => f k * powQ (q : Rat) k) n = vP f n q := fun q => rfl
  have htr : trimN (fun k => difs (vP f n) k 0) n = trimN (nst mn f 0 n) n := trimN_congr n hdif
  have htN := trimN_le (nst mn f 0 n) n
  obtain ⟨V, hV⟩ : ∃ V, vP f n = V := ⟨_, rfl⟩
  obtain ⟨H, hH⟩ : ∃ H, nst mn f 0 n = H := ⟨_, rfl⟩
  rw [hV] at hsV htr
  simp only [hV] at hdif hval
  rw [hH] at htr htN ⊢
  simp only [hH] at hdif
  have HA := Lib.hid (And.intro hl (And.intro hf (And.intro hsV (And.intro hsum (And.intro hval (And.intro hdif (And.intro htr htN)))))))
  clear hl hf hsV hsum hval hdif htr htN hV hH
  go_enter Try.func41, Try.ntmps41
  go_wp2_with fail
  go_loopw [4, 5] (fun v x wr => ∃ q : Nat, q ≤ n ∧ x = .int .i64 q ∧ OutR w.heap.size q V v wr ∧ Below w.heap.size w wr) (fun _ x _ => n - (intOf x).toNat)
  case atStart => exact ⟨0, Nat.zero_le _, rfl, OutR.nil _ _ _, Below.refl _ _⟩
  case round =>
    obtain ⟨q, hq, rfl, hO, hbel⟩ := hrel
    by_cases hlt : q < n
    · have hqi : (q : Int) < (n : Int) := by omega
      have HR := Lib.hid (And.intro hO hbel)
      clear hO hbel
      go_wp2_with fail
      refine (refFromInt_any 0 _ (by omega) (by omega)).mono ?_
      rintro e w4 ⟨v4, rfl, hv4, hb4⟩
      rw [quo_zero] at hv4
      have H4 := Lib.hid (And.intro hv4 hb4)
      obtain ⟨p1, p2, p3, p4, p5, p6, rfl, _⟩ := hv4
      obtain ⟨sa, hsa⟩ : ∃ s, decide ((0 : Rat).num < 0) = s := ⟨_, rfl⟩
      rw [hsa]
      clear hb4
      go_wp2_with fail
      refine (refFromInt_any 1 _ (by omega) (by omega)).mono ?_
      rintro e w5 ⟨v5, rfl, hv5, hb5⟩
      rw [quo_one] at hv5
      have hv5' := hv5
      obtain ⟨q1, q2, q3, q4, q5, q6, rfl, _⟩ := hv5
      obtain ⟨sb, hsb⟩ : ∃ s, decide ((1 : Rat).num < 0) = s := ⟨_, rfl⟩
      have hr4 := H4.out.1.below hb5
      have hb6 := below_alloc1 w5 (.cells #[.bool sa, .slice p1 p2 p3, .slice p4 p5 p6] 24)
      have hb7 := below_alloc1 (w5.alloc (.cells #[.bool sa, .slice p1 p2 p3, .slice p4 p5 p6] 24)) (.cells #[.bool sb, .slice q1 q2 q3, .slice q4 q5 q6] 24)
      have hz : (w5.alloc (.cells #[.bool sa, .slice p1 p2 p3, .slice p4 p5 p6] 24)).heap.size = w5.heap.size + 1 := Array.size_push _
      have hB6 := (BoxV.new w5 w5.heap.size 24 (Nat.le_refl _) [.bool sa, .slice p1 p2 p3, .slice p4 p5 p6]).below hb7
      have hB7 := BoxV.new (w5.alloc (.cells #[.bool sa, .slice p1 p2 p3, .slice p4 p5 p6] 24)) w5.heap.size 24 (by rw [hz]; exact Nat.le_succ _) [.bool sb, .slice q1 q2 q3, .slice q4 q5 q6]
      rw [hz] at hB7
      have hbb := below_next' hb6 hb7
      have ho6 : RtO w5 w5.heap.size 0 ((w5.alloc (.cells #[.bool sa, .slice p1 p2 p3, .slice p4 p5 p6] 24)).alloc (.cells #[.bool sb, .slice q1 q2 q3, .slice q4 q5 q6] 24)) := ⟨p1, p2, p3, p4, p5, p6, by rw [hsa]; exact hB6, hr4.below hbb⟩
      have ho7 : RtO w5 (w5.heap.size + 1) 1 ((w5.alloc (.cells #[.bool sa, .slice p1 p2 p3, .slice p4 p5 p6] 24)).alloc (.cells #[.bool sb, .slice q1 q2 q3, .slice q4 q5 q6] 24)) := ⟨q1, q2, q3, q4, q5, q6, by rw [hsb]; exact hB7, hv5'.below hbb⟩
      have hb35 := below_next' H4.out.2 hb5
      have H5 := Lib.hid (And.intro (HR.out.1.below hb35) (And.intro (below_next' HR.out.2 hb35) (And.intro ho6 (And.intro ho7 hbb))))
      clear hv5' hr4 hb5 hb6 hb7 hz hB6 hB7 hbb ho6 ho7 hb35
      rw [hsb]
      clear hsa hsb
      go_wp2_with fail
      go_loopw [8] (fun x wr => ∃ k : Nat, k ≤ n ∧ x = .int .i64 k ∧ RtO w5 w5.heap.size (sumN (fun k => f k * powQ (q : Rat) k) k) wr ∧ RtO w5 (w5.heap.size + 1) (powQ (q : Rat) k) wr ∧ Below w5.heap.size w5 wr) (fun x _ => n - (intOf x).toNat)
      case atStart => exact ⟨0, Nat.zero_le _, rfl, H5.out.2.2.1, H5.out.2.2.2.1, H5.out.2.2.2.2⟩
      case round =>
        obtain ⟨k, hk, rfl, h6, h7, hbl⟩ := hrel
        by_cases hltk : k < n
        · have hki : (k : Int) < (n : Int) := by omega
          obtain ⟨SS, hSS⟩ : ∃ SS : Nat → Rat, (fun k => sumN (fun k => f k * powQ (q : Rat) k) k) = SS := ⟨_, rfl⟩
          have hSk : ∀ k, sumN (fun k => f k * powQ (q : Rat) k) k = SS k := fun k => by rw [← hSS]
          have hSn : SS k + f k * powQ (q : Rat) k = SS (k + 1) := by rw [← hSS]; rfl
          rw [hSk] at h6
          have hss : Sz (SS k) 600 := by rw [← hSk]; exact HA.out.2.2.2.1 q k (by omega) (by omega)
          have hxs : Sz (powQ (q : Rat) k) 7 := sz_powQ (by omega) (by omega)
          have H8 := Lib.hid (And.intro (HA.out.1.below (below_next' H5.out.2.1 hbl)) (And.intro h6 (And.intro h7 (And.intro hbl (And.intro hss (And.intro hxs (And.intro hSn hSk)))))))
          clear h6 h7 hbl hss hxs hSn hSk hSS
          go_wp2_with fail
          refine region_flow_tail (Fe (fp11 (.slice a n cap) n k f (SS k) (powQ (q : Rat) k))) (by rfl) (Fe.mono _) 44 8 [] (by rfl) (by kernel_rfl) (by kernel_rfl) (by kernel_rfl) (by kernel_rfl) (fun t ht => by cases ht) [0, 6, 7, 8] (by kernel_rfl) ?g0 (Fe.draw _) ?gs ?gf
          case g0 =>
            intro t ht
            simp only [List.mem_cons, List.not_mem_nil, or_false] at ht
            rcases ht with rfl | rfl | rfl | rfl
            · exact ⟨rfl, H8.out.1⟩
            · exact H8.out.2.1.box H8.out.2.2.2.2.1
            · exact H8.out.2.2.1.box H8.out.2.2.2.2.2.1
            · rfl
          case gs =>
            exact ⟨flowN_of (e_loadC rfl rfl) (by decide), flowN_of (e_move rfl) (by decide), flowN_of (e_move rfl) (by decide), flowN_of (e_indexA rfl rfl rfl hltk) (by decide), flowN_of (e_loadEA rfl rfl) (by decide), flowN_of (e_loadR rfl rfl) (by decide), flowN_of (e_mul4 rfl rfl rfl (sz_le (sz_mul (HA.out.2.1 k hltk) H8.out.2.2.2.2.2.1) (Nat.le_refl _)) (by omega)) (by decide), flowN_of (e_add4 rfl rfl rfl (by omega)) (by decide), trivial⟩
          intro a3 w6 hb6 hsz6 hdf6 hfacts hout _
          have f33 : RatC w6 (a3.tmps.getD 33 undef) (SS k + f k * powQ (q : Rat) k) := hfacts 7 33 (by decide) rfl
          rw [H8.out.2.2.2.2.2.2.1] at f33
          have hszn : a3.tmps.size = 44 := hsz6
          have hdfn : a3.defers = [] := hdf6
          obtain ⟨c1, c2, c3, c4, c5, c6, hBx, hRx⟩ := H8.out.2.1.below hb6
          have e6' : a3.tmps.getD 6 undef = .pointer (some ⟨w5.heap.size, 0, none⟩) := hout 6 (free_of (by kernel_rfl))
          change runFrom _ _ _ 1 8 a3 w6
          simp only [runFrom]
          refine e_store (t := 6) (u := 33) rfl e6' hBx f33 fun an' ln' cn' ad' ld' cd' hR => ?_
          have hn6 := RtO.next hBx (noLimb_rat _ _ _ _ _ _ _) hR
          have hn7 := (H8.out.2.2.1.below hb6).keep (v0 := .bool (decide ((SS (k + 1)).num < 0))) (v1 := .slice an' ln' cn') (v2 := .slice ad' ld' cd') hBx (noLimb_rat _ _ _ _ _ _ _) (by omega)
          have hnb := below_set3 (below_next' H8.out.2.2.2.1 hb6) hBx.block.1 (.bool (decide ((SS (k + 1)).num < 0))) (.slice an' ln' cn') (.slice ad' ld' cd')
          have H9 := Lib.hid (And.intro hn6 (And.intro hn7 hnb))
          generalize (((w6.setCell ⟨w5.heap.size, 0, none⟩ (.bool (decide ((SS (k + 1)).num < 0)))).setCell ⟨w5.heap.size, 1, none⟩ (.slice an' ln' cn')).setCell ⟨w5.heap.size, 2, none⟩ (.slice ad' ld' cd')) = w7 at H9 ⊢
          have e0 : a3.tmps.getD 0 undef = .slice a n cap := hout 0 (free_of (by kernel_rfl))
          have e1 : a3.tmps.getD 1 undef = undef := hout 1 (free_of (by kernel_rfl))
          have e2 : a3.tmps.getD 2 undef = .slice none 0 0 := hout 2 (free_of (by kernel_rfl))
          have e3 : a3.tmps.getD 3 undef = .bool false := hout 3 (free_of (by kernel_rfl))
          have e4 : a3.tmps.getD 4 undef = u4 := hout 4 (free_of (by kernel_rfl))
          have e5 : a3.tmps.getD 5 undef = .int .i64 q := hout 5 (free_of (by kernel_rfl))
          have e6 : a3.tmps.getD 6 undef = .pointer (some ⟨w5.heap.size, 0, none⟩) := hout 6 (free_of (by kernel_rfl))
          have e7 : a3.tmps.getD 7 undef = .pointer (some ⟨w5.heap.size + 1, 0, none⟩) := hout 7 (free_of (by kernel_rfl))
          have e8 : a3.tmps.getD 8 undef = .int .i64 k := hout 8 (free_of (by kernel_rfl))
          have e9 : a3.tmps.getD 9 undef = .slice a n cap := hout 9 (free_of (by kernel_rfl))
          have e10 : a3.tmps.getD 10 undef = .int .i64 n := hout 10 (free_of (by kernel_rfl))
          have e11 : a3.tmps.getD 11 undef = .bool (decide (33 < (n : Int))) := hout 11 (free_of (by kernel_rfl))
          have e12 : a3.tmps.getD 12 undef = .int .i64 q := hout 12 (free_of (by kernel_rfl))
          have e13 : a3.tmps.getD 13 undef = .slice a n cap := hout 13 (free_of (by kernel_rfl))
          have e14 : a3.tmps.getD 14 undef = .int .i64 n := hout 14 (free_of (by kernel_rfl))
          have e15 : a3.tmps.getD 15 undef = .bool true := hout 15 (free_of (by kernel_rfl))
          have e16 : a3.tmps.getD 16 undef = u16 := hout 16 (free_of (by kernel_rfl))
          have e17 : a3.tmps.getD 17 undef = u17 := hout 17 (free_of (by kernel_rfl))
          have e18 : a3.tmps.getD 18 undef = .agg #[.bool sa, .slice p1 p2 p3, .slice p4 p5 p6] := hout 18 (free_of (by kernel_rfl))
          have e19 : a3.tmps.getD 19 undef = .agg #[.bool sb, .slice q1 q2 q3, .slice q4 q5 q6] := hout 19 (free_of (by kernel_rfl))
          have e38 : a3.tmps.getD 38 undef = u38 := hout 38 (free_of (by kernel_rfl))
          have e39 : a3.tmps.getD 39 undef = u39 := hout 39 (free_of (by kernel_rfl))
          have e40 : a3.tmps.getD 40 undef = u40 := hout 40 (free_of (by kernel_rfl))
          have e41 : a3.tmps.getD 41 undef = u41 := hout 41 (free_of (by kernel_rfl))
          have e42 : a3.tmps.getD 42 undef = undef := hout 42 (free_of (by kernel_rfl))
          have e43 : a3.tmps.getD 43 undef = undef := hout 43 (free_of (by kernel_rfl))
          obtain ⟨va, hu⟩ : ∃ u : Nat → Value, ∀ t, a3.tmps.getD t undef = u t := ⟨_, fun _ => rfl⟩
          have ha := act_eq a3 44 hszn hdfn
          simp only [hu] at ha e0 e1 e2 e3 e4 e5 e6 e7 e8 e9 e10 e11 e12 e13 e14 e15 e16 e17 e18 e19 e38 e39 e40 e41 e42 e43
          have ha' : a3 = ⟨#[va 0, va 1, va 2, va 3, va 4, va 5, va 6, va 7, va 8, va 9, va 10, va 11, va 12, va 13, va 14, va 15, va 16, va 17, va 18, va 19, va 20, va 21, va 22, va 23, va 24, va 25, va 26, va 27, va 28, va 29, va 30, va 31, va 32, va 33, va 34, va 35, va 36, va 37, va 38, va 39, va 40, va 41, va 42, va 43], []⟩ := ha
          rw [e0, e1, e2, e3, e4, e5, e6, e7, e8, e9, e10, e11, e12, e13, e14, e15, e16, e17, e18, e19, e38, e39, e40, e41, e42, e43] at ha'
          clear ha hu e0 e1 e2 e3 e4 e5 e6 e7 e8 e9 e10 e11 e12 e13 e14 e15 e16 e17 e18 e19 e38 e39 e40 e41 e42 e43 hszn hdfn e6' hfacts hout hsz6 hdf6 f33 hb6 hn6 hn7 hnb hBx hRx hR
          subst ha'
          go_wp2_with fail
          refine region_flow_tail (Fe (fp12 q (powQ (q : Rat) k))) (by rfl) (Fe.mono _) 44 4 [] (by rfl) (by kernel_rfl) (by kernel_rfl) (by kernel_rfl) (by kernel_rfl) (fun t ht => by cases ht) [5, 7] (by kernel_rfl) ?h0 (Fe.draw _) ?hs ?hf
          case h0 =>
            intro t ht
            simp only [List.mem_cons, List.not_mem_nil, or_false] at ht
            rcases ht with rfl | rfl
            · rfl
            · exact H9.out.2.1.box H8.out.2.2.2.2.2.1
          case hs =>
            exact ⟨flowN_of (e_loadC rfl rfl) (by decide), flowN_of (e_move rfl) (by decide), flowN_of (e_fromI (n := (q : Int)) rfl rfl (by omega) (by omega) (sz_int (by omega) (by omega))) (by decide), flowN_of (e_mul2 rfl rfl rfl (by omega)) (by decide), trivial⟩
          intro a3 w8 hb8 hsz8 hdf8 hfacts hout _
          have f37 : RatC w8 (a3.tmps.getD 37 undef) (powQ (q : Rat) k * quo (q : Int) 1) := hfacts 3 37 (by decide) rfl
          have hpn : powQ (q : Rat) k * quo (q : Int) 1 = powQ (q : Rat) (k + 1) := by rw [quo_castN]; rfl
          rw [hpn] at f37
          have hszn : a3.tmps.size = 44 := hsz8
          have hdfn : a3.defers = [] := hdf8
          obtain ⟨c1, c2, c3, c4, c5, c6, hBx, hRx⟩ := H9.out.2.1.below hb8
          have e7' : a3.tmps.getD 7 undef = .pointer (some ⟨w5.heap.size + 1, 0, none⟩) := hout 7 (free_of (by kernel_rfl))
          change runFrom _ _ _ 1 4 a3 w8
          simp only [runFrom]
          refine e_store (t := 7) (u := 37) rfl e7' hBx f37 fun an' ln' cn' ad' ld' cd' hR => ?_
          have hn7 := RtO.next hBx (noLimb_rat _ _ _ _ _ _ _) hR
          have hn6 := (H9.out.1.below hb8).keep (v0 := .bool (decide ((powQ (q : Rat) (k + 1)).num < 0))) (v1 := .slice an' ln' cn') (v2 := .slice ad' ld' cd') hBx (noLimb_rat _ _ _ _ _ _ _) (by omega)
          have hnb := below_set3 (below_next' H9.out.2.2 hb8) hBx.block.1 (.bool (decide ((powQ (q : Rat) (k + 1)).num < 0))) (.slice an' ln' cn') (.slice ad' ld' cd')
          rw [← H8.out.2.2.2.2.2.2.2 (k + 1)] at hn6
          have HN := Lib.hid (And.intro hn6 (And.intro hn7 hnb))
          generalize (((w8.setCell ⟨w5.heap.size + 1, 0, none⟩ (.bool (decide ((powQ (q : Rat) (k + 1)).num < 0)))).setCell ⟨w5.heap.size + 1, 1, none⟩ (.slice an' ln' cn')).setCell ⟨w5.heap.size + 1, 2, none⟩ (.slice ad' ld' cd')) = w9 at HN ⊢
          have e0 : a3.tmps.getD 0 undef = .slice a n cap := hout 0 (free_of (by kernel_rfl))
          have e1 : a3.tmps.getD 1 undef = undef := hout 1 (free_of (by kernel_rfl))
          have e2 : a3.tmps.getD 2 undef = .slice none 0 0 := hout 2 (free_of (by kernel_rfl))
          have e3 : a3.tmps.getD 3 undef = .bool false := hout 3 (free_of (by kernel_rfl))
          have e4 : a3.tmps.getD 4 undef = u4 := hout 4 (free_of (by kernel_rfl))
          have e5 : a3.tmps.getD 5 undef = .int .i64 q := hout 5 (free_of (by kernel_rfl))
          have e6 : a3.tmps.getD 6 undef = .pointer (some ⟨w5.heap.size, 0, none⟩) := hout 6 (free_of (by kernel_rfl))
          have e7 : a3.tmps.getD 7 undef = .pointer (some ⟨w5.heap.size + 1, 0, none⟩) := hout 7 (free_of (by kernel_rfl))
          have e8 : a3.tmps.getD 8 undef = .int .i64 k := hout 8 (free_of (by kernel_rfl))
          have e9 : a3.tmps.getD 9 undef = .slice a n cap := hout 9 (free_of (by kernel_rfl))
          have e10 : a3.tmps.getD 10 undef = .int .i64 n := hout 10 (free_of (by kernel_rfl))
          have e11 : a3.tmps.getD 11 undef = .bool (decide (33 < (n : Int))) := hout 11 (free_of (by kernel_rfl))
          have e12 : a3.tmps.getD 12 undef = .int .i64 q := hout 12 (free_of (by kernel_rfl))
          have e13 : a3.tmps.getD 13 undef = .slice a n cap := hout 13 (free_of (by kernel_rfl))
          have e14 : a3.tmps.getD 14 undef = .int .i64 n := hout 14 (free_of (by kernel_rfl))
          have e15 : a3.tmps.getD 15 undef = .bool true := hout 15 (free_of (by kernel_rfl))
          have e16 : a3.tmps.getD 16 undef = u16 := hout 16 (free_of (by kernel_rfl))
          have e17 : a3.tmps.getD 17 undef = u17 := hout 17 (free_of (by kernel_rfl))
          have e18 : a3.tmps.getD 18 undef = .agg #[.bool sa, .slice p1 p2 p3, .slice p4 p5 p6] := hout 18 (free_of (by kernel_rfl))
          have e19 : a3.tmps.getD 19 undef = .agg #[.bool sb, .slice q1 q2 q3, .slice q4 q5 q6] := hout 19 (free_of (by kernel_rfl))
          have e38 : a3.tmps.getD 38 undef = u38 := hout 38 (free_of (by kernel_rfl))
          have e39 : a3.tmps.getD 39 undef = u39 := hout 39 (free_of (by kernel_rfl))
          have e40 : a3.tmps.getD 40 undef = u40 := hout 40 (free_of (by kernel_rfl))
          have e41 : a3.tmps.getD 41 undef = u41 := hout 41 (free_of (by kernel_rfl))
          have e42 : a3.tmps.getD 42 undef = undef := hout 42 (free_of (by kernel_rfl))
          have e43 : a3.tmps.getD 43 undef = undef := hout 43 (free_of (by kernel_rfl))
          obtain ⟨vb, hu⟩ : ∃ u : Nat → Value, ∀ t, a3.tmps.getD t undef = u t := ⟨_, fun _ => rfl⟩
          have ha := act_eq a3 44 hszn hdfn
          simp only [hu] at ha e0 e1 e2 e3 e4 e5 e6 e7 e8 e9 e10 e11 e12 e13 e14 e15 e16 e17 e18 e19 e38 e39 e40 e41 e42 e43
          have ha' : a3 = ⟨#[vb 0, vb 1, vb 2, vb 3, vb 4, vb 5, vb 6, vb 7, vb 8, vb 9, vb 10, vb 11, vb 12, vb 13, vb 14, vb 15, vb 16, vb 17, vb 18, vb 19, vb 20, vb 21, vb 22, vb 23, vb 24, vb 25, vb 26, vb 27, vb 28, vb 29, vb 30, vb 31, vb 32, vb 33, vb 34, vb 35, vb 36, vb 37, vb 38, vb 39, vb 40, vb 41, vb 42, vb 43], []⟩ := ha
          rw [e0, e1, e2, e3, e4, e5, e6, e7, e8, e9, e10, e11, e12, e13, e14, e15, e16, e17, e18, e19, e38, e39, e40, e41, e42, e43] at ha'
          clear ha hu e0 e1 e2 e3 e4 e5 e6 e7 e8 e9 e10 e11 e12 e13 e14 e15 e16 e17 e18 e19 e38 e39 e40 e41 e42 e43 hszn hdfn e7' hfacts hout hsz8 hdf8 f37 hb8 hn6 hn7 hnb hBx hRx hR hpn
          subst ha'
          go_wp2
          go_roundw
          case rel => exact ⟨k + 1, by omega, by go_num, HN.out⟩
          case measure => simp [intOf] <;> omega
        · obtain rfl : k = n := by omega
          rw [HA.out.2.2.2.2.1] at h6
          obtain ⟨c1, c2, c3, c4, c5, c6, hBx, hRx⟩ := h6
          obtain ⟨⟨y0, y1, y2⟩, _⟩ := hBx.three
          obtain ⟨s, hs⟩ : ∃ s, decide ((V q).num < 0) = s := ⟨_, rfl⟩
          rw [hs] at y0 hRx
          have hb12 := fun cs => below_alloc1 wr (.cells cs 24)
          have hbw := below_next' H5.out.2.1 hbl
          have H12 := Lib.hid (And.intro (H5.out.1.below hbl) (And.intro hRx (And.intro hbw hb12)))
          clear h7 hbl hBx hRx hs hb12 hbw hltk
          go_wp2_with (at_builtin; refine wpList_append_rat rfl _ _ rfl w.heap.size q V _ rfl (H12.out.1.below (H12.out.2.2.2 _)) ⟨wr.heap.size, 0, none⟩ 1 _ _ _ rfl (three_new _ _ _ _ _ _ rfl) (H12.out.2.1.below (H12.out.2.2.2 _)) (by omega) (below_next' H12.out.2.2.1 (H12.out.2.2.2 _)).size ?_; intro v' w13 hO3 hgr3)
          have HN := Lib.hid (And.intro hO3 ((below_next' H12.out.2.2.1 (H12.out.2.2.2 _)).grown hgr3 (below_next' H12.out.2.2.1 (H12.out.2.2.2 _)).size (fun k hk => (H12.out.1.own k hk).1)))
          clear hO3 hgr3
          go_wp2
          go_roundw
          case rel => exact ⟨q + 1, by omega, by go_num, HN.out⟩
          case measure => simp [intOf] <;> omega
    · obtain rfl : q = n := by omega
      obtain ⟨va, vc, rfl⟩ : ∃ va vc, u4 = .slice va q vc := by
        obtain ⟨va, vc, e, _⟩ := hO.lst
        exact ⟨va, vc, e⟩
      have HR := Lib.hid (And.intro (hO.lst.toA (k := 319) fun i hi => HA.out.2.2.1 0 i (by omega)) hbel)
      clear hO hbel hlt
      go_wp2_with fail
      refine (differences_any va q vc 319 V _ (by omega) HR.out.1 HA.out.2.2.1 (by omega)).mono ?_
      rintro e w5 ⟨v5, rfl, hv5, hb5⟩
      rw [HA.out.2.2.2.2.2.2.1] at hv5
      have hv6 := hv5.congr fun i hi => HA.out.2.2.2.2.2.1 i (Nat.lt_of_lt_of_le hi HA.out.2.2.2.2.2.2.2)
      have HF := Lib.hid (And.intro hv6 (below_next' HR.out.2 hb5))
      clear hv5 hv6 hb5
      go_wp2
      go_ret2
      exact ⟨_, rfl, HF.out.1, HF.out.2⟩
set_option maxRecDepth 100000 in
theorem refFromP_out (a : Option Addr) (n cap : Nat) (F : Nat → Rat) (w : World) (m1 : n ≤ 9223372036854775807) (h : 33 < n) : Calls Try.prog 41 #[.slice a n cap] w (ListB 0 F false w) := by
  go_enter Try.func41, Try.ntmps41
  go_wp2
  go_ret2
  exact ⟨_, rfl, Lst.nil _ _, Below.refl _ _⟩
end Go.Proofs.Ytdpiclmjdcjajaa
