/-
  Lists whose numbers change, and the sums of the product of two lists. No conditions.
-/
import Derived.Test.YtdpiclmjdcjajaaFB
namespace Go.Proofs.Ytdpiclmjdcjajaa
open Go.RowKit Num

/-- A list that the call itself made: all its numbers, in any form. -/
def LstM (B g n K : Nat) (F : Nat → Rat) (w : World) : Prop :=
  ∃ xs : List Value, BoxV w B g 24 xs ∧ xs.length = n * 3 ∧ NoLimb xs ∧ ∀ j, j < n → ∃ x y z, xs[j * 3]? = some x ∧ xs[j * 3 + 1]? = some y ∧ xs[j * 3 + 2]? = some z ∧ RatA w (.agg #[x, y, z]) K (F j)
theorem LstM.below {B g n K : Nat} {F : Nat → Rat} {w w' : World} (h : LstM B g n K F w) (hb : Below w.heap.size w w') : LstM B g n K F w' := by
  obtain ⟨xs, h1, h2, h3, h4⟩ := h
  refine ⟨xs, h1.below hb, h2, h3, fun j hj => ?_⟩
  obtain ⟨x, y, z, a, b, c, hr⟩ := h4 j hj
  exact ⟨x, y, z, a, b, c, hr.below hb⟩
theorem LstM.new (w : World) (B n K : Nat) (hB : B ≤ w.heap.size) : LstM B w.heap.size n K (fun _ => 0) (w.alloc (.cells (madeCells #[.bool false, .slice none 0 0, .slice none 0 0] (n * 3)) 24)) := by
  have get : ∀ i, i < n * 3 → (madeCells #[.bool false, .slice none 0 0, .slice none 0 0] (n * 3)).toList[i]? = some ((#[.bool false, .slice none 0 0, .slice none 0 0] : Array Value)[i % 3]!) := by
    intro i hi
    unfold madeCells
    simp [hi]
  refine ⟨(madeCells #[.bool false, .slice none 0 0, .slice none 0 0] (n * 3)).toList, BoxV.new w B 24 hB _, by rw [Array.length_toList, size_madeCells], noLimb_made _, fun j hj => ⟨.bool false, .slice none 0 0, .slice none 0 0, ?_, ?_, ?_, ratA_zero _ _⟩⟩
  · rw [get _ (by omega), show j * 3 % 3 = 0 by omega]; rfl
  · rw [get _ (by omega), show (j * 3 + 1) % 3 = 1 by omega]; rfl
  · rw [get _ (by omega), show (j * 3 + 2) % 3 = 2 by omega]; rfl
theorem LstM.toA {B g n K : Nat} {F : Nat → Rat} {w : World} (h : LstM B g n K F w) (hn : n ≤ 9223372036854775807) : LstA w (.slice (some ⟨g, 0, none⟩) n n) n K F := by
  obtain ⟨xs, h1, h2, h3, h4⟩ := h
  refine ⟨_, _, rfl, Nat.le_refl _, hn, fun i hi => ?_⟩
  obtain ⟨x, y, z, e1, e2, e3, hr⟩ := h4 i hi
  refine ⟨g, 0, x, y, z, rfl, ?_, ?_, ?_, hr⟩ <;> rw [Nat.zero_add, h1.cell _ (by omega)]
  · exact e1
  · exact e2
  · exact e3
theorem LstM.congr {B g n K : Nat} {F F' : Nat → Rat} {w : World} (h : LstM B g n K F w) (e : ∀ j, j < n → F j = F' j) : LstM B g n K F' w := by
  obtain ⟨xs, h1, h2, h3, h4⟩ := h
  exact ⟨xs, h1, h2, h3, fun j hj => by rw [← e j hj]; exact h4 j hj⟩
/-- One number is stored. -/
theorem LstM.store {B g n K i : Nat} {F F' : Nat → Rat} {w : World} {b : Bool} {a a' : Option Addr} {m c m' c' : Nat} (h : LstM B g n K F w) (hi : i < n) (hr : RatA w (.agg #[.bool b, .slice a m c, .slice a' m' c']) K (F' i)) (he : ∀ j, j ≠ i → F' j = F j) :
    LstM B g n K F' (((w.setCell ⟨g, i * 3, none⟩ (.bool b)).setCell ⟨g, i * 3 + 1, none⟩ (.slice a m c)).setCell ⟨g, i * 3 + 2, none⟩ (.slice a' m' c')) := by
  obtain ⟨xs, h1, h2, h3, h4⟩ := h
  have hgr := grown_setL w g (i * 3) (.bool b) (.slice a m c) (.slice a' m' c')
  refine ⟨((xs.set (i * 3) (.bool b)).set (i * 3 + 1) (.slice a m c)).set (i * 3 + 2) (.slice a' m' c'), boxV_set (boxV_set (boxV_set h1 _ _) _ _) _ _, by simpa using h2, ?_, fun j hj => ?_⟩
  · intro x hx m
    rcases List.mem_or_eq_of_mem_set hx with hx | rfl
    · rcases List.mem_or_eq_of_mem_set hx with hx | rfl
      · rcases List.mem_or_eq_of_mem_set hx with hx | rfl
        · exact h3 x hx m
        · simp
      · simp
    · simp
  · by_cases hjq : j = i
    · subst hjq
      refine ⟨_, _, _, ?_, ?_, ?_, hr.other h1 h3 hgr⟩
      · simp [List.getElem?_set]; omega
      · simp [List.getElem?_set]; omega
      · simp [List.getElem?_set]; omega
    · obtain ⟨x, y, z, e1, e2, e3, hx⟩ := h4 j hj
      rw [← he j hjq] at hx
      refine ⟨x, y, z, ?_, ?_, ?_, hx.other h1 h3 hgr⟩
      · rw [List.getElem?_set_ne (by omega), List.getElem?_set_ne (by omega), List.getElem?_set_ne (by omega)]; exact e1
      · rw [List.getElem?_set_ne (by omega), List.getElem?_set_ne (by omega), List.getElem?_set_ne (by omega)]; exact e2
      · rw [List.getElem?_set_ne (by omega), List.getElem?_set_ne (by omega), List.getElem?_set_ne (by omega)]; exact e3
/-- A number is stored into an element at the region's end. -/
theorem e_storeM {ops : Array Oper} {Q : Exit → Act → World → Prop} {K0 : Act → World → Prop} {m t u B g n K i : Nat} {F F' : Nat → Rat} {a : Act} {w : World} {ty : TypeId} {pos : String} {es : Array Edge}
    (ho : ops[m]? = some ⟨none, .store 24 (.tmp t) (.tmp u), ty, pos, es, none⟩) (ht : a.tmps.getD t undef = .pointer (some ⟨g, 0 + i * 3, none⟩)) (hL : LstM B g n K F w) (hi : i < n) (hu : RatC w (a.tmps.getD u undef) (F' i)) (hs : Sz (F' i) K) (he : ∀ j, j ≠ i → F' j = F j)
    (h : ∀ v0 v1 v2, LstM B g n K F' (((w.setCell ⟨g, i * 3, none⟩ v0).setCell ⟨g, i * 3 + 1, none⟩ v1).setCell ⟨g, i * 3 + 2, none⟩ v2) → K0 a (((w.setCell ⟨g, i * 3, none⟩ v0).setCell ⟨g, i * 3 + 1, none⟩ v1).setCell ⟨g, i * 3 + 2, none⟩ v2)) :
    wpOp Try.prog ops Q m K0 a w := by
  have hC := hu.a hs
  obtain ⟨an, ln, cn, ad, ld, cd, hv, hn, hd⟩ := hu
  rw [hv] at hC
  have hT := hL.store hi hC he
  obtain ⟨xs, l1, l2, l3, _⟩ := hL
  have hxl : i * 3 + 2 < xs.length := by omega
  have t0 : w.cell? ⟨g, i * 3, none⟩ = some xs[i * 3] := by rw [l1.cell _ (by omega)]; exact List.getElem?_eq_getElem _
  have t1 : w.cell? ⟨g, i * 3 + 1, none⟩ = some xs[i * 3 + 1] := by rw [l1.cell _ (by omega)]; exact List.getElem?_eq_getElem _
  have t2 : w.cell? ⟨g, i * 3 + 2, none⟩ = some xs[i * 3 + 2] := by rw [l1.cell _ (by omega)]; exact List.getElem?_eq_getElem _
  unfold wpOp
  rw [ho]
  simp only [Region.wanted, if_true]
  left
  unfold Oper.wp
  rw [Nat.zero_add] at ht
  rw [run_storeL a none ty pos es w t u g (i * 3) _ an ad ln cn ld cd _ _ _ ht hv t0 t1 t2 (l1.frozen _) (l1.frozen _) (l1.frozen _), Oper.upon_skip]
  exact h _ _ _ hT

section
variable {κ : Tmp → Ke} {G : Nat → Option Tmp} {d s t u c : Tmp} {ty : TypeId} {pos : String} {es : Array Edge} {k k' K : Nat} {p q : Rat} {f : Nat → Rat}
theorem e_idxM {g n cap i : Nat} (ht : κ t = .lsa (.slice (some ⟨g, 0, none⟩) n cap) n K f) (hu : κ u = .con (.int .i64 i)) (hd : κ d = .con (.pointer (some ⟨g, 0 + i * 3, none⟩))) (hi : i < n) : FlowStep Try.prog (Fe κ) G ⟨some d, .indexAddr 32 (.tmp t) (.tmp u), ty, pos, es, none⟩ := by
  refine e_step rfl fun a w Q hf' => ?_
  have h := hf' t (by simp [Op.operands])
  have h' := hf' u (by simp [Op.operands])
  rw [ht] at h
  rw [hu] at h'
  obtain ⟨e1, h1⟩ := (show a.tmps.getD t undef = .slice (some ⟨g, 0, none⟩) n cap ∧ LstA w _ n K f from h)
  unfold Oper.wp
  rw [run_idxL _ _ _ _ _ _ _ _ g 0 n cap i e1 h' hi, Oper.upon_value]
  exact ⟨_, rfl, Below.refl _ _, fun d' hd' => by cases hd'; rw [hd]; rfl⟩
theorem c2_70 (a : Act) (d : Option Tmp) (ty : TypeId) (pos : String) (es : Array Edge) (t u : Tmp) (w : World) :
    Sem.run Try.prog (execOp a.eval ⟨d, .call ⟨.value (.func 70), #[.tmp t, .tmp u], #[24, 24]⟩, ty, pos, es, none⟩) w = .ok (.enter 70 #[a.tmps.getD t undef, a.tmps.getD u undef]) w := by go_simp
end

/-! The sums -/
theorem sz_of_wh1 {x : Rat} {k : Nat} (h : Wh 1 (pw k) x) : Sz x (k + 1) := h.sz Nat.one_pos (Nat.lt_of_lt_of_le (show 1 < pw 1 by unfold pw; omega) (pw_le (by omega))) (pw_lt (by omega)) (by omega)
end Go.Proofs.Ytdpiclmjdcjajaa

/-
  The walk of multiplyIntegers. Conditions: two lists of canonical whole numbers, not empty, of at most 34 numbers together.
-/
namespace Go.Proofs.Ytdpiclmjdcjajaa
open Go.RowKit Num

/-- A variable that the region made. -/
def Ke.bxn (B K : Nat) (p : Rat) : Ke := ⟨fun w v => (Ke.box K p).holds w v ∧ ∃ g, v = .pointer (some ⟨g, 0, none⟩) ∧ B ≤ g, fun hb ⟨h, e⟩ => ⟨(Ke.box K p).below hb h, e⟩⟩
def oneBox (t0 B K : Nat) (I : Rat) : Tmp → Ke := fun t => if t = t0 then .bxn B K I else .any
theorem box_store {κ : Tmp → Ke} {t0 B K : Nat} {I : Rat} {w : World} {g : Nat} {an ad : Option Addr} {ln cn ld cd : Nat} (hB : BoxV w B g 24 [.bool false, .slice none 0 0, .slice none 0 0]) (hs : Sz I K) (hR : RatC w (.agg #[.bool (decide (I.num < 0)), .slice an ln cn, .slice ad ld cd]) I)
    (a : Act) (e3 : a.tmps.getD t0 undef = .pointer (some ⟨g, 0, none⟩)) (t : Tmp) (_ : Fe κ t w (a.tmps.getD t undef)) :
    Fe (oneBox t0 B K I) t (((w.setCell ⟨g, 0, none⟩ (.bool (decide (I.num < 0)))).setCell ⟨g, 1, none⟩ (.slice an ln cn)).setCell ⟨g, 2, none⟩ (.slice ad ld cd)) (a.tmps.getD t undef) := by
  by_cases h3 : t = t0
  · subst h3
    have e : oneBox t B K I t = .bxn B K I := if_pos rfl
    show (oneBox t B K I t).holds _ _
    rw [e]
    obtain ⟨⟨c0, c1, c2⟩, _⟩ := (hB.store3 (.bool (decide (I.num < 0))) (.slice an ln cn) (.slice ad ld cd)).three
    exact ⟨⟨g, _, _, _, e3, c0, c1, c2, hR.other hB noLimb_nil3 (grown_set3 w g _ _ _), hs⟩, g, e3, hB.block.1⟩
  · have e : oneBox t0 B K I t = .any := if_neg h3
    show (oneBox t0 B K I t).holds _ _
    rw [e]
    trivial
theorem box_kept {w w' : World} {v : Value} {k B g t : Nat} {q : Rat} {xs : List Value} (h : (Ke.box k q).holds w v) (hb : BoxV w B g t xs) (hx : NoLimb xs) (hg : w.grownBy w' (some g)) (hne : v ≠ .pointer (some ⟨g, 0, none⟩)) : (Ke.box k q).holds w' v := Kd.kept (κ := .boxC k q) h hb hx hg hne

end Go.Proofs.Ytdpiclmjdcjajaa

/-
  The walk of Mul. Conditions: numbers of at most 8 limbs.
-/
namespace Go.Proofs.Ytdpiclmjdcjajaa
open Go.RowKit Num

/-- A list in any form and its scale. -/
def Ke.scA (n k : Nat) (f : Nat → Rat) (S : Rat) : Ke := ⟨fun w v => ∃ gP s an ln cn ad ld cd, v = .agg #[.slice (some ⟨gP, 0, none⟩) n n, .bool s, .slice an ln cn, .slice ad ld cd] ∧ LstA w (.slice (some ⟨gP, 0, none⟩) n n) n k f ∧ RatC w (.agg #[.bool s, .slice an ln cn, .slice ad ld cd]) S,
  fun hb ⟨gP, s, an, ln, cn, ad, ld, cd, e, h1, h2⟩ => ⟨gP, s, an, ln, cn, ad, ld, cd, e, h1.below hb, h2.below hb⟩⟩
section
variable {κ : Tmp → Ke} {G : Nat → Option Tmp} {d s t u c : Tmp} {ty : TypeId} {pos : String} {es : Array Edge} {k k' B n m K : Nat} {p q S : Rat} {f f' : Nat → Rat}
end
theorem LstA.kept {w w' : World} {a : Option Addr} {n cap k : Nat} {f : Nat → Rat} {B g t : Nat} {xs : List Value} (h : LstA w (.slice a n cap) n k f) (hb : BoxV w B g t xs) (hx : NoLimb xs) (hg : w.grownBy w' (some g)) (hne : 0 < n → ∀ b, a = some b → b.block ≠ g) : LstA w' (.slice a n cap) n k f := by
  obtain ⟨a', cap', e, h1, h2, h3⟩ := h
  obtain ⟨rfl, rfl⟩ : a = a' ∧ cap = cap' := by simpa using e
  refine ⟨_, _, rfl, h1, h2, fun i hi => ?_⟩
  obtain ⟨g', o, x, y, z, rfl, c0, c1, c2, hr⟩ := h3 i hi
  have hn := hne (by omega) _ rfl
  have cell : ∀ j u, w.cell? ⟨g', j, none⟩ = some u → w'.cell? ⟨g', j, none⟩ = some u := fun j u hc => hg.cell hc (by simpa using hn)
  exact ⟨g', o, x, y, z, rfl, cell _ _ c0, cell _ _ c1, cell _ _ c2, hr.other hb hx hg⟩
end Go.Proofs.Ytdpiclmjdcjajaa

/-
  The walk of the reference's Mul. Condition: numbers of at most 8 limbs.
-/
namespace Go.Proofs.Ytdpiclmjdcjajaa
open Go.RowKit Num

section
variable {κ : Tmp → Ke} {G : Nat → Option Tmp} {d s t u c : Tmp} {ty : TypeId} {pos : String} {es : Array Edge} {k k' B n m K : Nat} {p q x : Rat} {f f' : Nat → Rat}
end

/-! The values of the product -/
end Go.Proofs.Ytdpiclmjdcjajaa

/-
  The walk of the law BinomialAdds: for every two lists that can be read it returns true. No conditions.
-/
namespace Go.Proofs.Ytdpiclmjdcjajaa
open Go.RowKit Num

end Go.Proofs.Ytdpiclmjdcjajaa

/-
  The walk of the law BinomialRing: for every two lists that can be read and every integer it returns true. No conditions.
-/
namespace Go.Proofs.Ytdpiclmjdcjajaa
open Go.RowKit Num

/-! The values -/
section
variable {κ : Tmp → Ke} {G : Nat → Option Tmp} {d s t u c : Tmp} {ty : TypeId} {pos : String} {es : Array Edge}
end
end Go.Proofs.Ytdpiclmjdcjajaa

/-
  The walk of nest, whatever its step is. Conditions: at most 33 canonical numbers, intermediate numbers of at most KN limbs.
-/
namespace Go.Proofs.Ytdpiclmjdcjajaa
open Go.RowKit Num

/-- A known number of a list changes. -/
theorem LstI.upd {B g k q i : Nat} {f f' : Nat → Rat} {w : World} {b : Bool} {a a' : Option Addr} {n c n' c' : Nat} (h : LstI B g k f q w) (hi : i < q) (hq : q ≤ k) (hr : RatC w (.agg #[.bool b, .slice a n c, .slice a' n' c']) (f' i)) (he : ∀ j, j ≠ i → f' j = f j) :
    LstI B g k f' q (((w.setCell ⟨g, i * 3, none⟩ (.bool b)).setCell ⟨g, i * 3 + 1, none⟩ (.slice a n c)).setCell ⟨g, i * 3 + 2, none⟩ (.slice a' n' c')) := by
  obtain ⟨xs, h1, h2, h3, h4⟩ := h
  have hgr := grown_setL w g (i * 3) (.bool b) (.slice a n c) (.slice a' n' c')
  refine ⟨((xs.set (i * 3) (.bool b)).set (i * 3 + 1) (.slice a n c)).set (i * 3 + 2) (.slice a' n' c'), boxV_set (boxV_set (boxV_set h1 _ _) _ _) _ _, by simpa using h2, ?_, fun j hj => ?_⟩
  · intro x hx m
    rcases List.mem_or_eq_of_mem_set hx with hx | rfl
    · rcases List.mem_or_eq_of_mem_set hx with hx | rfl
      · rcases List.mem_or_eq_of_mem_set hx with hx | rfl
        · exact h3 x hx m
        · simp
      · simp
    · simp
  · by_cases hjq : j = i
    · subst hjq
      refine ⟨_, _, _, ?_, ?_, ?_, hr.other h1 h3 hgr⟩
      · simp [List.getElem?_set]; omega
      · simp [List.getElem?_set]; omega
      · simp [List.getElem?_set]; omega
    · obtain ⟨x, y, z, e1, e2, e3, hx⟩ := h4 j hj
      rw [← he j hjq] at hx
      refine ⟨x, y, z, ?_, ?_, ?_, hx.other h1 h3 hgr⟩
      · rw [List.getElem?_set_ne (by omega), List.getElem?_set_ne (by omega), List.getElem?_set_ne (by omega)]; exact e1
      · rw [List.getElem?_set_ne (by omega), List.getElem?_set_ne (by omega), List.getElem?_set_ne (by omega)]; exact e2
      · rw [List.getElem?_set_ne (by omega), List.getElem?_set_ne (by omega), List.getElem?_set_ne (by omega)]; exact e3
theorem LstI.congr {B g k q : Nat} {f f' : Nat → Rat} {w : World} (h : LstI B g k f q w) (e : ∀ j, j < q → f j = f' j) : LstI B g k f' q w := by
  obtain ⟨xs, h1, h2, h3, h4⟩ := h
  exact ⟨xs, h1, h2, h3, fun j hj => by rw [← e j hj]; exact h4 j hj⟩
theorem LstI.elemC {B g k q i : Nat} {f : Nat → Rat} {w : World} (h : LstI B g k f q w) (hi : i < q) (hq : q ≤ k) : ElemC w (some ⟨g, 0, none⟩) i (f i) := by
  obtain ⟨xs, h1, h2, h3, h4⟩ := h
  obtain ⟨x, y, z, e1, e2, e3, hr⟩ := h4 i hi
  refine ⟨g, 0, x, y, z, rfl, ?_, ?_, ?_, hr⟩ <;> rw [Nat.zero_add, h1.cell _ (by omega)]
  · exact e1
  · exact e2
  · exact e3
theorem e_storeU {ops : Array Oper} {Q : Exit → Act → World → Prop} {K0 : Act → World → Prop} {m t u B g k q i : Nat} {f f' : Nat → Rat} {a : Act} {w : World} {ty : TypeId} {pos : String} {es : Array Edge}
    (ho : ops[m]? = some ⟨none, .store 24 (.tmp t) (.tmp u), ty, pos, es, none⟩) (ht : a.tmps.getD t undef = .pointer (some ⟨g, 0 + i * 3, none⟩)) (hL : LstI B g k f q w) (hi : i < q) (hq : q ≤ k) (hu : RatC w (a.tmps.getD u undef) (f' i)) (he : ∀ j, j ≠ i → f' j = f j)
    (h : ∀ v0 v1 v2, LstI B g k f' q (((w.setCell ⟨g, i * 3, none⟩ v0).setCell ⟨g, i * 3 + 1, none⟩ v1).setCell ⟨g, i * 3 + 2, none⟩ v2) → K0 a (((w.setCell ⟨g, i * 3, none⟩ v0).setCell ⟨g, i * 3 + 1, none⟩ v1).setCell ⟨g, i * 3 + 2, none⟩ v2)) :
    wpOp Try.prog ops Q m K0 a w := by
  have hC := hu
  obtain ⟨an, ln, cn, ad, ld, cd, hv, hn, hd⟩ := hu
  rw [hv] at hC
  have hT := hL.upd hi hq hC he
  obtain ⟨xs, l1, l2, l3, _⟩ := hL
  have hxl : i * 3 + 2 < xs.length := by omega
  have t0 : w.cell? ⟨g, i * 3, none⟩ = some xs[i * 3] := by rw [l1.cell _ (by omega)]; exact List.getElem?_eq_getElem _
  have t1 : w.cell? ⟨g, i * 3 + 1, none⟩ = some xs[i * 3 + 1] := by rw [l1.cell _ (by omega)]; exact List.getElem?_eq_getElem _
  have t2 : w.cell? ⟨g, i * 3 + 2, none⟩ = some xs[i * 3 + 2] := by rw [l1.cell _ (by omega)]; exact List.getElem?_eq_getElem _
  unfold wpOp
  rw [ho]
  simp only [Region.wanted, if_true]
  left
  unfold Oper.wp
  rw [Nat.zero_add] at ht
  rw [run_storeL a none ty pos es w t u g (i * 3) _ an ad ln cn ld cd _ _ _ ht hv t0 t1 t2 (l1.frozen _) (l1.frozen _) (l1.frozen _), Oper.upon_skip]
  exact h _ _ _ hT

section
variable {κ : Tmp → Ke} {G : Nat → Option Tmp} {d s t u c : Tmp} {ty : TypeId} {pos : String} {es : Array Edge} {k k' K : Nat} {p q : Rat} {f : Nat → Rat}
theorem e_idxC {g n cap i : Nat} (ht : κ t = .slC (some ⟨g, 0, none⟩) n cap i p) (hu : κ u = .con (.int .i64 i)) (hd : κ d = .con (.pointer (some ⟨g, 0 + i * 3, none⟩))) (hi : i < n) : FlowStep Try.prog (Fe κ) G ⟨some d, .indexAddr 32 (.tmp t) (.tmp u), ty, pos, es, none⟩ := by
  refine e_step rfl fun a w Q hf' => ?_
  have h := hf' t (by simp [Op.operands])
  have h' := hf' u (by simp [Op.operands])
  rw [ht] at h
  rw [hu] at h'
  obtain ⟨e1, h1⟩ := (show a.tmps.getD t undef = .slice (some ⟨g, 0, none⟩) n cap ∧ ElemC w _ i p from h)
  unfold Oper.wp
  rw [run_idxL _ _ _ _ _ _ _ _ g 0 n cap i e1 h' hi, Oper.upon_value]
  exact ⟨_, rfl, Below.refl _ _, fun d' hd' => by cases hd'; rw [hd]; rfl⟩
theorem e_addCC (ht : κ t = .ratC p) (hp : Sz p k) (hu : κ u = .ratC q) (hq : Sz q k') (hd : κ d = .ratC (p + q)) (hk : k + k' ≤ 20000) :
    FlowStep Try.prog (Fe κ) G ⟨some d, .call ⟨.value (.func 70), #[.tmp t, .tmp u], #[24, 24]⟩, ty, pos, es, none⟩ :=
  e_c2 (fun a w => c2_70 _ _ _ _ _ _ _ _) fun w x y hx hy => by
    rw [ht] at hx
    rw [hu] at hy
    have hx : RatC w x p := hx
    have hy : RatC w y q := hy
    refine (add_a (k := k + k') ((hx.a hp).le (by omega)) ((hy.a hq).le (by omega)) hk).mono ?_
    rintro e w' ⟨v, rfl, hv, hb⟩
    exact ⟨v, rfl, by rw [hd]; exact hv, hb⟩
end

/-! One step of the nested sum -/
/-- The element that the rise of the one before has laid. -/
def riG (ri : Nat → Nat → Rat) (pk : Rat) (k : Nat) (a : Nat → Rat) (i : Nat) : Rat := if i = 0 then pk else ri k (i - 1) * a (i - 1)
def fiG (st ri : Nat → Nat → Rat) (pk : Rat) (k : Nat) (a : Nat → Rat) (i : Nat) : Rat := riG ri pk k a i + st k i * a i
def inG (st ri : Nat → Nat → Rat) (pk : Rat) (k : Nat) (a : Nat → Rat) (j i : Nat) : Rat := if i < j then fiG st ri pk k a i else riG ri pk k a i
def tG (st ri : Nat → Nat → Rat) (k : Nat) (a : Nat → Rat) (i : Nat) : Rat := (if i = 0 then 0 else ri k (i - 1) * a (i - 1)) + st k i * a i
theorem nst_fiG (st ri : Nat → Nat → Rat) (p : Nat → Rat) (k d i : Nat) : nst (tG st ri) p k (d + 1) i = fiG st ri (p k) k (nst (tG st ri) p (k + 1) d) i := by
  show (if i = 0 then p k else 0) + ((if i = 0 then 0 else ri k (i - 1) * nst (tG st ri) p (k + 1) d (i - 1)) + st k i * nst (tG st ri) p (k + 1) d i) = _
  unfold fiG riG
  by_cases h : i = 0
  · rw [if_pos h, if_pos h, if_pos h]; grind
  · rw [if_neg h, if_neg h, if_neg h]; grind
theorem tG_none (st ri : Nat → Nat → Rat) (k : Nat) (a : Nat → Rat) (i : Nat) (h : ∀ j, i ≤ j + 1 → a j = 0) : tG st ri k a i = 0 := by
  unfold tG
  rw [h i (by omega)]
  split
  · grind
  · rw [h (i - 1) (by omega)]; grind
theorem inG_end {st ri : Nat → Nat → Rat} {p : Nat → Rat} {k d i : Nat} (hi : i < d + 1) : inG st ri (p k) k (nst (tG st ri) p (k + 1) d) d i = nst (tG st ri) p k (d + 1) i := by
  rw [nst_fiG]
  unfold inG
  split
  · rfl
  · unfold fiG
    rw [nst_none (tG st ri) p (tG_none st ri) d (k + 1) i (by omega)]
    grind
theorem inG_at {st ri : Nat → Nat → Rat} {pk : Rat} {k j : Nat} {a : Nat → Rat} : inG st ri pk k a j j + st k j * a j = inG st ri pk k a (j + 1) j := by
  unfold inG
  rw [if_neg (by omega), if_pos (by omega)]
  rfl
theorem inG_other {st ri : Nat → Nat → Rat} {pk : Rat} {k j i : Nat} {a : Nat → Rat} (h : i ≠ j) : inG st ri pk k a (j + 1) i = inG st ri pk k a j i := by
  unfold inG
  by_cases h1 : i < j
  · rw [if_pos h1, if_pos (by omega)]
  · rw [if_neg h1, if_neg (by omega)]
theorem inG_next {st ri : Nat → Nat → Rat} {pk : Rat} {k j : Nat} {a : Nat → Rat} : inG st ri pk k a (j + 1) (j + 1) = ri k j * a j := by
  unfold inG riG
  rw [if_neg (by omega), if_neg (by omega), Nat.add_sub_cancel]

/-- What a step must answer. -/
def StepOk (F : FuncId) (st ri : Nat → Nat → Rat) (n : Nat) : Prop :=
  (∀ x y w, Sem.run Try.prog (callFunc F #[x, y]) w = .ok (.enter F #[x, y]) w) ∧ ∀ (w : World) (k j : Nat), k < n → j < n → Calls Try.prog F #[.int .i64 k, .int .i64 j] w (fun e w' => ∃ u v, e = .returned (.tuple #[u, v]) ∧ RatC w' u (st k j) ∧ RatC w' v (ri k j) ∧ Below w.heap.size w w')
def neK (b : Option Addr) (g n j KA : Nat) (q a s : Rat) : Tmp → Ke := fun t => ([.any, .any, .any, .any, .any, .any, .any, .slC b n n j q, .con (.int .i64 j), .box KA a, .box 3 s, .any, .any, .any, .any, .any, .any, .any, .any, .any, .any, .any, .any, .any, .any, .any, .any, .any, .any, .any, .any, .any, .any, .any, .any, .any, .any, .any, .any, .any, .any, .any, .any, .slC b n n j q, .con (.int .i64 j), .slC b n n j q, .con (.int .i64 j), .elC q, .ratC q, .ra 3 s, .rc KA a, .ratC (s * a), .ratC (q + s * a), .con (.pointer (some ⟨g, 0 + j * 3, none⟩))] : List Ke).getD t .any

set_option maxRecDepth 100000 in
set_option maxHeartbeats 16000000 in
theorem nest_any (a0 : Option Addr) (n cap KN : Nat) (p : Nat → Rat) (F : FuncId) (st ri : Nat → Nat → Rat) (w : World) (hn : n ≤ 33) (hl : Lst w (.slice a0 n cap) n p) (hF : StepOk F st ri n) (hst : ∀ k j, k < n → j < n → Sz (st k j) 3) (hri : ∀ k j, k < n → j < n → Sz (ri k j) 3)
    (hs : ∀ k d i, k + d = n → Sz (nst (tG st ri) p k d i) KN) (hp : ∀ i, i < n → Sz (p i) KN) (hK : KN ≤ 6000) :
    Calls Try.prog 79 #[.slice a0 n cap, .func (.func F) #[] #[]] w (fun e w' => ∃ v, e = .returned v ∧ Lst w' v n (nst (tG st ri) p 0 n) ∧ Below w.heap.size w w') := by
  have hcall := hF.1
  have hGs : ∀ k d (A : Nat → Rat) (j : Nat), k + 1 + d = n → j < d → nst (tG st ri) p (k + 1) d = A → Sz (inG st ri (p k) k A j j) (2 * KN + 4) := fun k d A j hk hj hA => by
    unfold inG riG
    rw [if_neg (by omega)]
    split
    · exact sz_le (hp k (by omega)) (by omega)
    · rw [← hA]
      exact sz_le (sz_mul (hri k (j - 1) (by omega) (by omega)) (hs (k + 1) d (j - 1) hk)) (by omega)
  have HSZ := Lib.hid (And.intro hGs trivial)
  clear hGs
  have HA := Lib.hid (And.intro hl (And.intro hF.2 (And.intro hst (And.intro hri (And.intro hs hp)))))
  clear hl hF hst hri hs hp
  go_enter Try.func79, Try.ntmps79
  go_wp2_with fail
  go_loopw [5, 6] (fun x5 x6 wr => ∃ d : Nat, d ≤ n ∧ x6 = .int .i64 ((n : Int) - d - 1) ∧ Lst wr x5 d (nst (tG st ri) p (n - d) d) ∧ Below w.heap.size w wr) (fun _ x6 _ => (intOf x6 + 1).toNat)
  case atStart => exact ⟨0, Nat.zero_le _, by simp, ⟨none, 0, rfl, Nat.le_refl _, by omega, fun i hi => by omega⟩, Below.refl _ _⟩
  case round =>
    obtain ⟨wrA, hwA⟩ : ∃ x, x = wr := ⟨_, rfl⟩
    subst hwA
    obtain ⟨d, hd, rfl, hS, hbel⟩ := hrel
    obtain ⟨b5, c5, rfl, _⟩ := id hS
    by_cases hdn : d < n
    · obtain ⟨k, hk⟩ : ∃ k : Nat, k + 1 + d = n := ⟨n - d - 1, by omega⟩
      have hki : (n : Int) - d - 1 = (k : Int) := by omega
      rw [hki]
      have hk0 : (0 : Int) ≤ (k : Int) := by omega
      rw [show n - d = k + 1 by omega] at hS
      obtain ⟨A, hA⟩ : ∃ A, nst (tG st ri) p (k + 1) d = A := ⟨_, rfl⟩
      rw [hA] at hS
      have hAs : ∀ i, Sz (A i) KN := fun i => by rw [← hA]; exact HA.out.2.2.2.2.1 (k + 1) d i (by omega)
      obtain ⟨D, hD⟩ : ∃ D, D = d + 1 := ⟨_, rfl⟩
      have hfin : ∀ i, i < D → inG st ri (p k) k A d i = nst (tG st ri) p k D i := fun i hi => by rw [← hA, hD]; exact inG_end (by omega)
      obtain ⟨gp, op, x, y, z, rfl, c0, c1, c2, hr⟩ := (HA.out.1.below hbel).elem (i := k) (by omega)
      obtain ⟨m1, m2, m3, m4, m5, m6, he, _⟩ := id hr
      obtain ⟨rfl, rfl, rfl⟩ : x = .bool (decide ((p k).num < 0)) ∧ y = .slice m1 m2 m3 ∧ z = .slice m4 m5 m6 := by simpa using he
      clear he
      obtain ⟨s0, hs0⟩ : ∃ s, decide ((p k).num < 0) = s := ⟨_, rfl⟩
      rw [hs0] at hr c0
      have hb7 := below_alloc1 wrA (.cells (madeCells #[.bool false, .slice none 0 0, .slice none 0 0] (D * 3)) 24)
      have hT0 := LstI.new wrA wrA.heap.size D (inG st ri (p k) k A 0) (Nat.le_refl _)
      have hT1 := hT0.store (by omega) (hr.below hb7 : RatC _ _ (inG st ri (p k) k A 0 0))
      simp only [Nat.zero_mul, Nat.zero_add] at hT1
      have hb8 := ((hb7.setCell (p := ⟨wrA.heap.size, 0, none⟩) (Nat.le_refl _) (.bool s0)).setCell (p := ⟨wrA.heap.size, 1, none⟩) (Nat.le_refl _) (.slice m1 m2 m3)).setCell (p := ⟨wrA.heap.size, 2, none⟩) (Nat.le_refl _) (.slice m4 m5 m6)
      obtain ⟨xs, l1, l2, l3, _⟩ := hT0
      have hxl : 2 < xs.length := by omega
      have z0 : (wrA.alloc (.cells (madeCells #[.bool false, .slice none 0 0, .slice none 0 0] (D * 3)) 24)).cell? ⟨wrA.heap.size, 0, none⟩ = some xs[0] := by rw [l1.cell _ (by omega)]; exact List.getElem?_eq_getElem _
      have z1 : (wrA.alloc (.cells (madeCells #[.bool false, .slice none 0 0, .slice none 0 0] (D * 3)) 24)).cell? ⟨wrA.heap.size, 1, none⟩ = some xs[1] := by rw [l1.cell _ (by omega)]; exact List.getElem?_eq_getElem _
      have z2 : (wrA.alloc (.cells (madeCells #[.bool false, .slice none 0 0, .slice none 0 0] (D * 3)) 24)).cell? ⟨wrA.heap.size, 2, none⟩ = some xs[2] := by rw [l1.cell _ (by omega)]; exact List.getElem?_eq_getElem _
      have f0 := l1.frozen 0
      have f1 := l1.frozen 1
      have f2 := l1.frozen 2
      generalize xs[0] = xa at z0
      generalize xs[1] = xb at z1
      generalize xs[2] = xc at z2
      have c0' := cell_below hb7 c0
      have c1' := cell_below hb7 c1
      have c2' := cell_below hb7 c2
      have HR := Lib.hid (And.intro hS (And.intro hbel (And.intro hT1 (And.intro hb8 (And.intro hAs (And.intro hfin hA))))))
      clear hS hbel hT1 hb8 hb7 l1 l2 l3 hxl hr hs0 hAs hfin hA c0 c1 c2
      have hDi : (d : Int) + 1 = (D : Int) := by omega
      have hDlo : d + 1 ≤ D := by omega
      have hDhi : D ≤ d + 1 := by omega
      have hDn : D ≤ n := by omega
      have hD0 : (0 : Int) < (D : Int) := by omega
      clear hD
      go_wp2_with fail
      rw [run_make32 D wrA (by omega)]
      generalize wrA.alloc (.cells (madeCells #[.bool false, .slice none 0 0, .slice none 0 0] (D * 3)) 24) = W7 at HR z0 z1 z2 f0 f1 f2 c0' c1' c2' ⊢
      go_wp2_with fail
      go_loopw [31] (fun x wr => ∃ j : Nat, j ≤ d ∧ x = .int .i64 j ∧ LstI wrA.heap.size wrA.heap.size D (inG st ri (p k) k A j) (j + 1) wr ∧ Below wrA.heap.size wrA wr) (fun x _ => d - (intOf x).toNat)
      case atStart => exact ⟨0, Nat.zero_le _, rfl, HR.out.2.2.1, HR.out.2.2.2.1⟩
      case round =>
        obtain ⟨j, hj, rfl, hT, hbl⟩ := hrel
        by_cases hlt : j < d
        · have hji : (j : Int) < (d : Int) := by omega
          obtain ⟨gs, os, x9, y9, z9, rfl, i0, i1, i2, hr9⟩ := (HR.out.1.below hbl).elem (i := j) hlt
          obtain ⟨t1, t2, t3, t4, t5, t6, he, _⟩ := id hr9
          obtain ⟨rfl, rfl, rfl⟩ : x9 = .bool (decide ((A j).num < 0)) ∧ y9 = .slice t1 t2 t3 ∧ z9 = .slice t4 t5 t6 := by simpa using he
          clear he
          obtain ⟨sa, hsa⟩ : ∃ s, decide ((A j).num < 0) = s := ⟨_, rfl⟩
          rw [hsa] at hr9 i0
          have hb9 := below_alloc1 wr (.cells #[.bool sa, .slice t1 t2 t3, .slice t4 t5 t6] 24)
          have hB9 := BoxV.new wr wr.heap.size 24 (Nat.le_refl _) [.bool sa, .slice t1 t2 t3, .slice t4 t5 t6]
          have hx9 : (Ke.box KN (A j)).holds _ (.pointer (some ⟨wr.heap.size, 0, none⟩)) := boxC_of hB9 (hr9.below hb9) (HR.out.2.2.2.2.1 j)
          have hszr : wrA.heap.size < wr.heap.size := by obtain ⟨xs, l1, _⟩ := hT; exact l1.block.2
          have H9 := Lib.hid (And.intro hx9 (And.intro (hT.below hb9) (And.intro (below_next' hbl hb9) (And.intro hb9 hszr))))
          clear hszr hx9 hT hbl hB9 hb9 hr9 hsa
          go_wp2_with fail
          refine (HA.out.2.1 _ k j (by omega) (by omega)).mono ?_
          rintro e w10 ⟨vu, vv, rfl, hu, hv, hb10⟩
          have hu' := hu
          have hv' := hv
          obtain ⟨q1, q2, q3, q4, q5, q6, rfl, _⟩ := hu
          obtain ⟨r1, r2, r3, r4, r5, r6, rfl, _⟩ := hv
          obtain ⟨su, hsu⟩ : ∃ s, decide ((st k j).num < 0) = s := ⟨_, rfl⟩
          obtain ⟨sv, hsv⟩ : ∃ s, decide ((ri k j).num < 0) = s := ⟨_, rfl⟩
          rw [hsu] at hu' ⊢
          rw [hsv] at hv' ⊢
          have hb11 := below_alloc1 w10 (.cells #[.bool su, .slice q1 q2 q3, .slice q4 q5 q6] 24)
          have hb12 := below_alloc1 (w10.alloc (.cells #[.bool su, .slice q1 q2 q3, .slice q4 q5 q6] 24)) (.cells #[.bool sv, .slice r1 r2 r3, .slice r4 r5 r6] 24)
          have hz : (w10.alloc (.cells #[.bool su, .slice q1 q2 q3, .slice q4 q5 q6] 24)).heap.size = w10.heap.size + 1 := Array.size_push _
          have hB10 := (BoxV.new w10 0 24 (Nat.zero_le _) [.bool su, .slice q1 q2 q3, .slice q4 q5 q6]).below hb12
          have hB11 := BoxV.new (w10.alloc (.cells #[.bool su, .slice q1 q2 q3, .slice q4 q5 q6] 24)) 0 24 (Nat.zero_le _) [.bool sv, .slice r1 r2 r3, .slice r4 r5 r6]
          rw [hz] at hB11
          have hbb := below_next' hb10 (below_next' hb11 hb12)
          have hx10 : (Ke.box 3 (st k j)).holds _ (.pointer (some ⟨w10.heap.size, 0, none⟩)) := boxC_of hB10 ((hu'.below hb11).below hb12) (HA.out.2.2.1 k j (by omega) (by omega))
          have hx11 : (Ke.box 3 (ri k j)).holds _ (.pointer (some ⟨w10.heap.size + 1, 0, none⟩)) := boxC_of hB11 ((hv'.below hb11).below hb12) (HA.out.2.2.2.1 k j (by omega) (by omega))
          have hne : w10.heap.size ≠ wrA.heap.size ∧ w10.heap.size + 1 ≠ wrA.heap.size ∧ wr.heap.size ≠ wrA.heap.size := by
            have h1 := hb10.size
            have h2 := H9.out.2.2.2.1.size
            have h3 := H9.out.2.2.2.2
            omega
          have H10 := Lib.hid (And.intro ((Ke.box KN (A j)).below hbb H9.out.1) (And.intro hx10 (And.intro hx11 (And.intro (H9.out.2.1.below hbb) (And.intro (below_next' H9.out.2.2.1 hbb) hne)))))
          clear hb10 hb11 hb12 hz hB10 hB11 hbb hx10 hx11 hu' hv' hsu hsv hne i0 i1 i2
          go_wp2_with fail
          refine region_flow_tail (Fe (neK (some ⟨wrA.heap.size, 0, none⟩) wrA.heap.size D j KN (inG st ri (p k) k A j j) (A j) (st k j))) (by rfl) (Fe.mono _) 64 11 [] (by rfl) (by kernel_rfl) (by kernel_rfl) (by kernel_rfl) (by kernel_rfl) (fun t ht => by cases ht) [7, 8, 9, 10] (by kernel_rfl) ?g0 (Fe.draw _) ?gs ?gf
          case g0 =>
            intro t ht
            simp only [List.mem_cons, List.not_mem_nil, or_false] at ht
            rcases ht with rfl | rfl | rfl | rfl
            · exact ⟨rfl, H10.out.2.2.2.1.elemC (by omega) (by omega)⟩
            · rfl
            · exact H10.out.1
            · exact H10.out.2.1
          case gs =>
            exact ⟨flowN_of (e_move rfl) (by decide), flowN_of (e_move rfl) (by decide), flowN_of (e_move rfl) (by decide), flowN_of (e_move rfl) (by decide), flowN_of (e_indexC rfl rfl rfl (by omega)) (by decide), flowN_of (e_loadEC rfl rfl) (by decide), flowN_of (e_loadC rfl rfl) (by decide), flowN_of (e_loadR rfl rfl) (by decide), flowN_of (e_mul73 rfl rfl rfl (by omega)) (by decide), flowN_of (e_addCC rfl (HSZ.out.1 k d A j (by omega) hlt HR.out.2.2.2.2.2.2) rfl (sz_mul (HA.out.2.2.1 k j (by omega) (by omega)) (HR.out.2.2.2.2.1 j)) rfl (by omega)) (by decide), flowN_of (e_idxC rfl rfl rfl (by omega)) (by decide), trivial⟩
          intro a3 w11 hb11 hsz11 hdf11 hfacts hout _
          have f52 : RatC w11 (a3.tmps.getD 52 undef) (inG st ri (p k) k A j j + st k j * A j) := hfacts 9 52 (by decide) rfl
          have f53 : a3.tmps.getD 53 undef = .pointer (some ⟨wrA.heap.size, 0 + j * 3, none⟩) := hfacts 10 53 (by decide) rfl
          rw [inG_at] at f52
          have hszn : a3.tmps.size = 64 := hsz11
          have hdfn : a3.defers = [] := hdf11
          change runFrom _ _ _ 1 11 a3 w11
          simp only [runFrom]
          refine e_storeU (t := 53) (u := 52) (f' := inG st ri (p k) k A (j + 1)) rfl f53 (H10.out.2.2.2.1.below hb11) (by omega) (by omega) f52 (fun i hi => inG_other hi) fun v0 v1 v2 hU => ?_
          obtain ⟨xs, l1, l2, l3, _⟩ := H10.out.2.2.2.1.below hb11
          have hgr := grown_setL w11 wrA.heap.size (j * 3) v0 v1 v2
          have hX9 := box_kept ((Ke.box _ _).below hb11 H10.out.1) l1 l3 hgr (by simp; exact H10.out.2.2.2.2.2.2.2)
          have hX11 := box_kept ((Ke.box _ _).below hb11 H10.out.2.2.1) l1 l3 hgr (by simp; exact H10.out.2.2.2.2.2.2.1)
          have hbU := below_setL (below_next' H10.out.2.2.2.2.1 hb11) (o := j * 3) (Nat.le_refl _) v0 v1 v2
          have e0 : a3.tmps.getD 0 undef = .slice (some ⟨gp, op, none⟩) n cap := hout 0 (free_of (by kernel_rfl))
          have e1 : a3.tmps.getD 1 undef = .func (.func F) #[] #[] := hout 1 (free_of (by kernel_rfl))
          have e2 : a3.tmps.getD 2 undef = undef := hout 2 (free_of (by kernel_rfl))
          have e3 : a3.tmps.getD 3 undef = undef := hout 3 (free_of (by kernel_rfl))
          have e4 : a3.tmps.getD 4 undef = .slice none 0 0 := hout 4 (free_of (by kernel_rfl))
          have e5 : a3.tmps.getD 5 undef = .slice (some ⟨gs, os, none⟩) d c5 := hout 5 (free_of (by kernel_rfl))
          have e6 : a3.tmps.getD 6 undef = .int .i64 k := hout 6 (free_of (by kernel_rfl))
          have e7 : a3.tmps.getD 7 undef = .slice (some ⟨wrA.heap.size, 0, none⟩) D D := hout 7 (free_of (by kernel_rfl))
          have e8 : a3.tmps.getD 8 undef = .int .i64 j := hout 8 (free_of (by kernel_rfl))
          have e9 : a3.tmps.getD 9 undef = .pointer (some ⟨wr.heap.size, 0, none⟩) := hout 9 (free_of (by kernel_rfl))
          have e10 : a3.tmps.getD 10 undef = .pointer (some ⟨w10.heap.size, 0, none⟩) := hout 10 (free_of (by kernel_rfl))
          have e11 : a3.tmps.getD 11 undef = .pointer (some ⟨w10.heap.size + 1, 0, none⟩) := hout 11 (free_of (by kernel_rfl))
          have e12 : a3.tmps.getD 12 undef = .slice (some ⟨gp, op, none⟩) n cap := hout 12 (free_of (by kernel_rfl))
          have e13 : a3.tmps.getD 13 undef = .int .i64 n := hout 13 (free_of (by kernel_rfl))
          have e14 : a3.tmps.getD 14 undef = .int .i64 ((n : Int) - 1) := hout 14 (free_of (by kernel_rfl))
          have e15 : a3.tmps.getD 15 undef = .int .i64 k := hout 15 (free_of (by kernel_rfl))
          have e16 : a3.tmps.getD 16 undef = .bool true := hout 16 (free_of (by kernel_rfl))
          have e17 : a3.tmps.getD 17 undef = u17 := hout 17 (free_of (by kernel_rfl))
          have e18 : a3.tmps.getD 18 undef = u18 := hout 18 (free_of (by kernel_rfl))
          have e19 : a3.tmps.getD 19 undef = .slice (some ⟨gs, os, none⟩) d c5 := hout 19 (free_of (by kernel_rfl))
          have e20 : a3.tmps.getD 20 undef = .int .i64 d := hout 20 (free_of (by kernel_rfl))
          have e21 : a3.tmps.getD 21 undef = .int .i64 D := hout 21 (free_of (by kernel_rfl))
          have e22 : a3.tmps.getD 22 undef = .slice (some ⟨wrA.heap.size, 0, none⟩) D D := hout 22 (free_of (by kernel_rfl))
          have e23 : a3.tmps.getD 23 undef = .slice (some ⟨wrA.heap.size, 0, none⟩) D D := hout 23 (free_of (by kernel_rfl))
          have e24 : a3.tmps.getD 24 undef = .slice (some ⟨gp, op, none⟩) n cap := hout 24 (free_of (by kernel_rfl))
          have e25 : a3.tmps.getD 25 undef = .int .i64 k := hout 25 (free_of (by kernel_rfl))
          have e26 : a3.tmps.getD 26 undef = .pointer (some ⟨gp, op + k * 3, none⟩) := hout 26 (free_of (by kernel_rfl))
          have e27 : a3.tmps.getD 27 undef = .agg #[.bool s0, .slice m1 m2 m3, .slice m4 m5 m6] := hout 27 (free_of (by kernel_rfl))
          have e28 : a3.tmps.getD 28 undef = .pointer (some ⟨wrA.heap.size, 0, none⟩) := hout 28 (free_of (by kernel_rfl))
          have e29 : a3.tmps.getD 29 undef = .slice (some ⟨gs, os, none⟩) d c5 := hout 29 (free_of (by kernel_rfl))
          have e30 : a3.tmps.getD 30 undef = .int .i64 d := hout 30 (free_of (by kernel_rfl))
          have e31 : a3.tmps.getD 31 undef = .int .i64 j := hout 31 (free_of (by kernel_rfl))
          have e62 : a3.tmps.getD 62 undef = u62 := hout 62 (free_of (by kernel_rfl))
          have e63 : a3.tmps.getD 63 undef = undef := hout 63 (free_of (by kernel_rfl))
          generalize (((w11.setCell ⟨wrA.heap.size, j * 3, none⟩ v0).setCell ⟨wrA.heap.size, j * 3 + 1, none⟩ v1).setCell ⟨wrA.heap.size, j * 3 + 2, none⟩ v2) = w12 at hU hX9 hX11 hbU ⊢
          obtain ⟨g9', x0, x1, x2, ex9, d0, d1, d2, dr, _⟩ := id hX9
          obtain rfl : wr.heap.size = g9' := by simpa using ex9
          obtain ⟨h1, h2, h3, h4, h5, h6, he9, _⟩ := id dr
          obtain ⟨rfl, rfl, rfl⟩ : x0 = .bool (decide ((A j).num < 0)) ∧ x1 = .slice h1 h2 h3 ∧ x2 = .slice h4 h5 h6 := by simpa using he9
          obtain ⟨g11', y0, y1, y2, ex11, k0, k1, k2, kr, _⟩ := id hX11
          obtain rfl : w10.heap.size + 1 = g11' := by simpa using ex11
          obtain ⟨o1, o2, o3, o4, o5, o6, he11, _⟩ := id kr
          obtain ⟨rfl, rfl, rfl⟩ : y0 = .bool (decide ((ri k j).num < 0)) ∧ y1 = .slice o1 o2 o3 ∧ y2 = .slice o4 o5 o6 := by simpa using he11
          obtain ⟨ta, hta⟩ : ∃ s, decide ((A j).num < 0) = s := ⟨_, rfl⟩
          obtain ⟨tr, htr⟩ : ∃ s, decide ((ri k j).num < 0) = s := ⟨_, rfl⟩
          rw [hta] at d0 dr
          rw [htr] at k0 kr
          have H12 := Lib.hid (And.intro hU (And.intro hbU (And.intro dr kr)))
          obtain ⟨uu, hu⟩ : ∃ u : Nat → Value, ∀ t, a3.tmps.getD t undef = u t := ⟨_, fun _ => rfl⟩
          have ha := act_eq a3 64 hszn hdfn
          simp only [hu] at ha e0 e1 e2 e3 e4 e5 e6 e7 e8 e9 e10 e11 e12 e13 e14 e15 e16 e17 e18 e19 e20 e21 e22 e23 e24 e25 e26 e27 e28 e29 e30 e31 e62 e63
          have ha' : a3 = ⟨#[uu 0, uu 1, uu 2, uu 3, uu 4, uu 5, uu 6, uu 7, uu 8, uu 9, uu 10, uu 11, uu 12, uu 13, uu 14, uu 15, uu 16, uu 17, uu 18, uu 19, uu 20, uu 21, uu 22, uu 23, uu 24, uu 25, uu 26, uu 27, uu 28, uu 29, uu 30, uu 31, uu 32, uu 33, uu 34, uu 35, uu 36, uu 37, uu 38, uu 39, uu 40, uu 41, uu 42, uu 43, uu 44, uu 45, uu 46, uu 47, uu 48, uu 49, uu 50, uu 51, uu 52, uu 53, uu 54, uu 55, uu 56, uu 57, uu 58, uu 59, uu 60, uu 61, uu 62, uu 63], []⟩ := ha
          rw [e0, e1, e2, e3, e4, e5, e6, e7, e8, e9, e10, e11, e12, e13, e14, e15, e16, e17, e18, e19, e20, e21, e22, e23, e24, e25, e26, e27, e28, e29, e30, e31, e62, e63] at ha'
          clear ha hu e0 e1 e2 e3 e4 e5 e6 e7 e8 e9 e10 e11 e12 e13 e14 e15 e16 e17 e18 e19 e20 e21 e22 e23 e24 e25 e26 e27 e28 e29 e30 e31 e62 e63 hfacts hout hszn hdfn hsz11 hdf11 f52 f53 hU hX9 hX11 hbU hgr l1 l2 l3 ex9 ex11 he9 he11 dr kr hta htr hb11
          subst ha'
          obtain ⟨J, hJ⟩ : ∃ J, J = j + 1 := ⟨_, rfl⟩
          have hJi : (j : Int) + 1 = (J : Int) := by omega
          have hJlo : j + 1 ≤ J := by omega
          have hJhi : J ≤ j + 1 := by omega
          have HJ := Lib.hid hJ
          clear hJ
          go_wp2_with fail
          refine (mul_a (k := KN + 3) ((H12.out.2.2.2.a (HA.out.2.2.2.1 k j (by omega) (by omega))).le (by omega)) ((H12.out.2.2.1.a (HR.out.2.2.2.2.1 j)).le (by omega)) (by omega)).mono ?_
          rintro e w13 ⟨v13, rfl, hv13, hb13⟩
          rw [← inG_next (st := st) (pk := p k), ← HJ.out] at hv13
          have hT13 := H12.out.1.below hb13
          rw [← HJ.out] at hT13
          have hC := hv13
          obtain ⟨j1, j2, j3, j4, j5, j6, rfl, _⟩ := hv13
          have hT14 := hT13.store (by omega) hC
          obtain ⟨xs, l1x, l2x, l3x, _⟩ := hT13
          have hxl : J * 3 + 2 < xs.length := by omega
          have t0 : w13.cell? ⟨wrA.heap.size, J * 3, none⟩ = some xs[J * 3] := by rw [l1x.cell _ (by omega)]; exact List.getElem?_eq_getElem _
          have t1' : w13.cell? ⟨wrA.heap.size, J * 3 + 1, none⟩ = some xs[J * 3 + 1] := by rw [l1x.cell _ (by omega)]; exact List.getElem?_eq_getElem _
          have t2' : w13.cell? ⟨wrA.heap.size, J * 3 + 2, none⟩ = some xs[J * 3 + 2] := by rw [l1x.cell _ (by omega)]; exact List.getElem?_eq_getElem _
          have f0' := l1x.frozen (J * 3)
          have f1' := l1x.frozen (J * 3 + 1)
          have f2' := l1x.frozen (J * 3 + 2)
          generalize xs[J * 3] = xa' at t0
          generalize xs[J * 3 + 1] = xb' at t1'
          generalize xs[J * 3 + 2] = xc' at t2'
          obtain ⟨s, hs⟩ : ∃ s, decide ((inG st ri (p k) k A J J).num < 0) = s := ⟨_, rfl⟩
          rw [hs] at hT14 ⊢
          have hbel6 := below_setL (below_next' H12.out.2.1 hb13) (o := J * 3) (Nat.le_refl _) (.bool s) (.slice j1 j2 j3) (.slice j4 j5 j6)
          have HN := Lib.hid (And.intro hT14 hbel6)
          clear hC hT14 l1x l2x l3x hxl hbel6 hs hb13 d0 d1 d2 k0 k1 k2
          have hJd : J ≤ d := by omega
          go_wp2
          go_roundw
          case rel => exact ⟨J, hJd, by first | rfl | go_num, HN.out⟩
          case measure => simp [intOf] <;> omega
        · obtain rfl : j = d := by omega
          have hT' : LstI wrA.heap.size wrA.heap.size D (inG st ri (p k) k A j) D wr := by
            have e : D = j + 1 := by omega
            rw [e]
            rw [e] at hT
            exact hT
          have hLL := (hT'.congr HR.out.2.2.2.2.2.1).lst (cap := D) (Nat.le_refl _) (by omega)
          have HN := Lib.hid (And.intro hLL (below_next' HR.out.2.1 hbl))
          clear hT hT' hbl hLL hlt
          go_wp2
          go_roundw
          case rel => exact ⟨D, hDn, by congr 1; omega, by rw [show n - D = k by omega]; exact HN.out.1, HN.out.2⟩
          case measure => simp [intOf] <;> omega
    · obtain rfl : d = n := by omega
      rw [Nat.sub_self] at hS
      have hki : ¬ (0 : Int) ≤ (d : Int) - d - 1 := by omega
      have HN := Lib.hid (And.intro hS hbel)
      clear hS hbel hdn
      go_wp2
      go_ret
      exact ⟨_, rfl, HN.out.1, HN.out.2⟩
end Go.Proofs.Ytdpiclmjdcjajaa

/-
  The walks of Powers and FromPowers. Conditions: at most 33 numbers, whose whole forms have at most 5900 limbs.
-/
namespace Go.Proofs.Ytdpiclmjdcjajaa
open Go.RowKit Num

def stP (k _ : Nat) : Rat := quo (-(k : Int)) ((k : Int) + 1)
def riP (k _ : Nat) : Rat := quo 1 ((k : Int) + 1)
def stF (_ j : Nat) : Rat := quo (j : Int) 1
def riF (_ j : Nat) : Rat := quo ((j : Int) + 1) 1
theorem quo_over (a : Int) (k : Nat) : quo a ((k : Int) + 1) = (a : Rat) / ((k : Rat) + 1) := by
  rw [← quo_div, quo_cast, quo_cast]
  push_cast
  rfl
theorem tG_P : tG stP riP = tk := by
  funext k a i
  unfold tG tk stP riP
  rw [quo_over, quo_over]
  have h := pos_ne k
  have e : (((-(k : Int)) : Int) : Rat) = -(k : Rat) := Rat.intCast_neg _
  rw [e, show ((1 : Int) : Rat) = 1 from rfl]
  split
  · grind
  · grind
theorem tG_F : tG stF riF = mn := by
  funext k a i
  unfold tG mn stF riF
  rw [quo_cast, quo_cast]
  by_cases h : i = 0
  · subst h
    simp
  · obtain ⟨j, rfl⟩ : ∃ j, i = j + 1 := ⟨i - 1, by omega⟩
    rw [if_neg h, if_neg h, Nat.add_sub_cancel]
    push_cast
    rfl
theorem sz_stP {k : Nat} (j : Nat) (hk : k ≤ 100) : Sz (stP k j) 3 := by
  unfold stP
  rw [← quo_div]
  have e : quo (-(k : Int)) 1 = -(quo (k : Int) 1) := by rw [quo_cast, quo_cast]; exact Rat.intCast_neg _
  rw [e]
  exact sz_div (a := 1) (b := 1) (sz_neg (sz_nat (by omega))) (sz_nat (n := k + 1) (by omega))
theorem sz_riP {k : Nat} (j : Nat) (hk : k ≤ 100) : Sz (riP k j) 3 := by
  unfold riP
  rw [← quo_div]
  exact sz_div (a := 1) (b := 1) (sz_nat (n := 1) (by omega)) (sz_nat (n := k + 1) (by omega))
theorem callFunc80 (x y : Value) (w : World) : Sem.run Try.prog (callFunc 80 #[x, y]) w = .ok (.enter 80 #[x, y]) w := by go_simp
theorem callFunc83 (x y : Value) (w : World) : Sem.run Try.prog (callFunc 83 #[x, y]) w = .ok (.enter 83 #[x, y]) w := by go_simp

set_option maxRecDepth 100000 in
set_option maxHeartbeats 4000000 in
theorem stepP_any (k j : Nat) (hk : k ≤ 100) (w : World) : Calls Try.prog 80 #[.int .i64 k, .int .i64 j] w (fun e w' => ∃ u v, e = .returned (.tuple #[u, v]) ∧ RatC w' u (stP k j) ∧ RatC w' v (riP k j) ∧ Below w.heap.size w w') := by
  have hz : (w.alloc (.cells #[.bool false, .slice none 0 0, .slice none 0 0] 24)).heap.size = w.heap.size + 1 := Array.size_push _
  have hb1 := below_alloc1 w (.cells #[.bool false, .slice none 0 0, .slice none 0 0] 24)
  have hb2 := below_alloc1 (w.alloc (.cells #[.bool false, .slice none 0 0, .slice none 0 0] 24)) (.cells #[.bool false, .slice none 0 0, .slice none 0 0] 24)
  have hA := (BoxV.new w w.heap.size 24 (Nat.le_refl _) [.bool false, .slice none 0 0, .slice none 0 0]).below hb2
  have hB := BoxV.new (w.alloc (.cells #[.bool false, .slice none 0 0, .slice none 0 0] 24)) w.heap.size 24 (by rw [hz]; exact Nat.le_succ _) [.bool false, .slice none 0 0, .slice none 0 0]
  rw [hz] at hB
  have HA := Lib.hid (And.intro hA (And.intro hB (below_next' hb1 hb2)))
  clear hz hb1 hb2 hA hB
  have w1' : IntKind.i64.wrap (-(k : Int)) = -(k : Int) := IntWalk.i64_in _ (by omega)
  go_enter Try.func80, Try.ntmps80
  go_wp2_with fail
  refine (small_any (-(k : Int)) ((k : Int) + 1) _ (by omega) (by omega) (by omega) (by omega)).mono ?_
  rintro e w1 ⟨v1, rfl, hv1, hb1⟩
  have H1 := Lib.hid (And.intro hv1 (And.intro (HA.out.1.below hb1) (And.intro (HA.out.2.1.below hb1) (below_next' HA.out.2.2 hb1))))
  obtain ⟨y1, y2, y3, y4, y5, y6, rfl, _⟩ := hv1
  clear hb1
  go_wp2_with fail
  refine (small_any 1 ((k : Int) + 1) _ (by omega) (by omega) (by omega) (by omega)).mono ?_
  rintro e w2 ⟨v2, rfl, hv2, hb2⟩
  have hr1 := H1.out.1.below hb2
  have hX := H1.out.2.1.below hb2
  have hY := H1.out.2.2.1.below hb2
  have hr2 := hv2
  obtain ⟨z1, z2, z3, z4, z5, z6, rfl, _⟩ := hv2
  obtain ⟨⟨a0, a1, a2⟩, a3, a4, a5⟩ := hX.three
  obtain ⟨⟨b0, b1, b2⟩, b3, b4, b5⟩ := hY.three
  obtain ⟨s1, hs1⟩ : ∃ s, decide ((stP k j).num < 0) = s := ⟨_, rfl⟩
  obtain ⟨s2, hs2⟩ : ∃ s, decide ((riP k j).num < 0) = s := ⟨_, rfl⟩
  have hq1 : RatC w2 (.agg #[.bool s1, .slice y1 y2 y3, .slice y4 y5 y6]) (stP k j) := by rw [← hs1]; exact hr1
  have hq2 : RatC w2 (.agg #[.bool s2, .slice z1 z2 z3, .slice z4 z5 z6]) (riP k j) := by rw [← hs2]; exact hr2
  have e1 : decide ((quo (-(k : Int)) ((k : Int) + 1)).num < 0) = s1 := hs1
  have e2 : decide ((quo 1 ((k : Int) + 1)).num < 0) = s2 := hs2
  rw [e1, e2]
  have g1 := grown_set3 w2 w.heap.size (.bool s1) (.slice y1 y2 y3) (.slice y4 y5 y6)
  have hX1 := hX.store3 (.bool s1) (.slice y1 y2 y3) (.slice y4 y5 y6)
  have hY1 := hY.kept g1 (by simp)
  have hq1a := hq1.other hX noLimb_nil3 g1
  have hq2a := hq2.other hX noLimb_nil3 g1
  have hbe1 := below_set3 (below_next' H1.out.2.2.2 hb2) hX.block.1 (.bool s1) (.slice y1 y2 y3) (.slice y4 y5 y6)
  have hne : w.heap.size + 1 ≠ w.heap.size := by omega
  obtain ⟨W3, hW3⟩ : ∃ W, (((w2.setCell ⟨w.heap.size, 0, none⟩ (.bool s1)).setCell ⟨w.heap.size, 1, none⟩ (.slice y1 y2 y3)).setCell ⟨w.heap.size, 2, none⟩ (.slice y4 y5 y6)) = W := ⟨_, rfl⟩
  rw [hW3] at g1 hX1 hY1 hq1a hq2a hbe1
  have g2 := grown_set3 W3 (w.heap.size + 1) (.bool s2) (.slice z1 z2 z3) (.slice z4 z5 z6)
  have hX2 := hX1.kept g2 (by simp)
  have hY2 := hY1.store3 (.bool s2) (.slice z1 z2 z3) (.slice z4 z5 z6)
  have hq1b := hq1a.other hY1 noLimb_nil3 g2
  have hq2b := hq2a.other hY1 noLimb_nil3 g2
  have hbe2 := below_set3 hbe1 hY1.block.1 (.bool s2) (.slice z1 z2 z3) (.slice z4 z5 z6)
  obtain ⟨⟨x0, x1, x2⟩, _⟩ := hX2.three
  obtain ⟨⟨u0, u1, u2⟩, _⟩ := hY2.three
  rw [← hW3] at x0 x1 x2 u0 u1 u2
  have HF := Lib.hid (And.intro hq1b (And.intro hq2b (And.intro hbe2 hW3)))
  clear hr1 hX hY hr2 hs1 hs2 hq1 hq2 e1 e2 g1 hX1 hY1 hq1a hq2a hbe1 g2 hX2 hY2 hq1b hq2b hbe2 hb2 hW3
  go_wp2
  refine bodyPost_ret (v := .tuple #[.agg #[.bool s1, .slice y1 y2 y3, .slice y4 y5 y6], .agg #[.bool s2, .slice z1 z2 z3, .slice z4 z5 z6]]) (by simp [results, Try.results80, go_sem, x0, x1, x2, u0, u1, u2]) rfl ⟨_, _, rfl, ?_⟩
  have h := HF.out
  rw [← h.2.2.2] at h
  exact ⟨h.1, h.2.1, h.2.2.1⟩

set_option maxRecDepth 100000 in
set_option maxHeartbeats 4000000 in
theorem stepF_any (k j : Nat) (hj : j ≤ 100) (w : World) : Calls Try.prog 83 #[.int .i64 k, .int .i64 j] w (fun e w' => ∃ u v, e = .returned (.tuple #[u, v]) ∧ RatC w' u (stF k j) ∧ RatC w' v (riF k j) ∧ Below w.heap.size w w') := by
  have hz : (w.alloc (.cells #[.bool false, .slice none 0 0, .slice none 0 0] 24)).heap.size = w.heap.size + 1 := Array.size_push _
  have hb1 := below_alloc1 w (.cells #[.bool false, .slice none 0 0, .slice none 0 0] 24)
  have hb2 := below_alloc1 (w.alloc (.cells #[.bool false, .slice none 0 0, .slice none 0 0] 24)) (.cells #[.bool false, .slice none 0 0, .slice none 0 0] 24)
  have hA := (BoxV.new w w.heap.size 24 (Nat.le_refl _) [.bool false, .slice none 0 0, .slice none 0 0]).below hb2
  have hB := BoxV.new (w.alloc (.cells #[.bool false, .slice none 0 0, .slice none 0 0] 24)) w.heap.size 24 (by rw [hz]; exact Nat.le_succ _) [.bool false, .slice none 0 0, .slice none 0 0]
  rw [hz] at hB
  have HA := Lib.hid (And.intro hA (And.intro hB (below_next' hb1 hb2)))
  clear hz hb1 hb2 hA hB
  go_enter Try.func83, Try.ntmps83
  go_wp2_with fail
  refine (fromInt_any (j : Int) _ (by omega) (by omega)).mono ?_
  rintro e w1 ⟨v1, rfl, hv1, hb1⟩
  have H1 := Lib.hid (And.intro hv1 (And.intro (HA.out.1.below hb1) (And.intro (HA.out.2.1.below hb1) (below_next' HA.out.2.2 hb1))))
  obtain ⟨y1, y2, y3, y4, y5, y6, rfl, _⟩ := hv1
  clear hb1
  go_wp2_with fail
  refine (fromInt_any ((j : Int) + 1) _ (by omega) (by omega)).mono ?_
  rintro e w2 ⟨v2, rfl, hv2, hb2⟩
  have hr1 := H1.out.1.below hb2
  have hX := H1.out.2.1.below hb2
  have hY := H1.out.2.2.1.below hb2
  have hr2 := hv2
  obtain ⟨z1, z2, z3, z4, z5, z6, rfl, _⟩ := hv2
  obtain ⟨⟨a0, a1, a2⟩, a3, a4, a5⟩ := hX.three
  obtain ⟨⟨b0, b1, b2⟩, b3, b4, b5⟩ := hY.three
  obtain ⟨s1, hs1⟩ : ∃ s, decide ((stF k j).num < 0) = s := ⟨_, rfl⟩
  obtain ⟨s2, hs2⟩ : ∃ s, decide ((riF k j).num < 0) = s := ⟨_, rfl⟩
  have hq1 : RatC w2 (.agg #[.bool s1, .slice y1 y2 y3, .slice y4 y5 y6]) (stF k j) := by rw [← hs1]; exact hr1
  have hq2 : RatC w2 (.agg #[.bool s2, .slice z1 z2 z3, .slice z4 z5 z6]) (riF k j) := by rw [← hs2]; exact hr2
  have e1 : decide ((quo (j : Int) 1).num < 0) = s1 := hs1
  have e2 : decide ((quo ((j : Int) + 1) 1).num < 0) = s2 := hs2
  rw [e1, e2]
  have g1 := grown_set3 w2 w.heap.size (.bool s1) (.slice y1 y2 y3) (.slice y4 y5 y6)
  have hX1 := hX.store3 (.bool s1) (.slice y1 y2 y3) (.slice y4 y5 y6)
  have hY1 := hY.kept g1 (by simp)
  have hq1a := hq1.other hX noLimb_nil3 g1
  have hq2a := hq2.other hX noLimb_nil3 g1
  have hbe1 := below_set3 (below_next' H1.out.2.2.2 hb2) hX.block.1 (.bool s1) (.slice y1 y2 y3) (.slice y4 y5 y6)
  have hne : w.heap.size + 1 ≠ w.heap.size := by omega
  obtain ⟨W3, hW3⟩ : ∃ W, (((w2.setCell ⟨w.heap.size, 0, none⟩ (.bool s1)).setCell ⟨w.heap.size, 1, none⟩ (.slice y1 y2 y3)).setCell ⟨w.heap.size, 2, none⟩ (.slice y4 y5 y6)) = W := ⟨_, rfl⟩
  rw [hW3] at g1 hX1 hY1 hq1a hq2a hbe1
  have g2 := grown_set3 W3 (w.heap.size + 1) (.bool s2) (.slice z1 z2 z3) (.slice z4 z5 z6)
  have hX2 := hX1.kept g2 (by simp)
  have hY2 := hY1.store3 (.bool s2) (.slice z1 z2 z3) (.slice z4 z5 z6)
  have hq1b := hq1a.other hY1 noLimb_nil3 g2
  have hq2b := hq2a.other hY1 noLimb_nil3 g2
  have hbe2 := below_set3 hbe1 hY1.block.1 (.bool s2) (.slice z1 z2 z3) (.slice z4 z5 z6)
  obtain ⟨⟨x0, x1, x2⟩, _⟩ := hX2.three
  obtain ⟨⟨u0, u1, u2⟩, _⟩ := hY2.three
  rw [← hW3] at x0 x1 x2 u0 u1 u2
  have HF := Lib.hid (And.intro hq1b (And.intro hq2b (And.intro hbe2 hW3)))
  clear hr1 hX hY hr2 hs1 hs2 hq1 hq2 e1 e2 g1 hX1 hY1 hq1a hq2a hbe1 g2 hX2 hY2 hq1b hq2b hbe2 hb2 hW3
  go_wp2
  refine bodyPost_ret (v := .tuple #[.agg #[.bool s1, .slice y1 y2 y3, .slice y4 y5 y6], .agg #[.bool s2, .slice z1 z2 z3, .slice z4 z5 z6]]) (by simp [results, Try.results83, go_sem, x0, x1, x2, u0, u1, u2]) rfl ⟨_, _, rfl, ?_⟩
  have h := HF.out
  rw [← h.2.2.2] at h
  exact ⟨h.1, h.2.1, h.2.2.1⟩

end Go.Proofs.Ytdpiclmjdcjajaa

/-
  The walks of Powers and FromPowers. Conditions: at most 33 numbers, whose whole forms have at most 5900 limbs.
-/
namespace Go.Proofs.Ytdpiclmjdcjajaa
open Go.RowKit Num

/-! Sizes -/
def dnP : Nat → Nat → Nat
  | _, 0 => 1
  | k, d + 1 => (k + 1) * dnP (k + 1) d
theorem dnP_pos : ∀ d k, 0 < dnP k d
  | 0, _ => Nat.one_pos
  | d + 1, k => Nat.mul_pos (Nat.succ_pos k) (dnP_pos d (k + 1))
theorem dnP_fac : ∀ d k, fac k * dnP k d = fac (k + d)
  | 0, k => by show fac k * 1 = fac k; rw [Nat.mul_one]
  | d + 1, k => by
    show fac k * ((k + 1) * dnP (k + 1) d) = fac (k + (d + 1))
    rw [← Nat.mul_assoc, show fac k * (k + 1) = fac (k + 1) from rfl, dnP_fac d (k + 1), show k + 1 + d = k + (d + 1) by omega]
theorem dnP_le (k d : Nat) : dnP k d ≤ fac (k + d) := by
  rw [← dnP_fac d k]
  exact Nat.le_mul_of_pos_left _ (fac_pos k)
theorem wh_tk {D B k : Nat} {a : Nat → Rat} (h : ∀ i, Wh D B (a i)) (i : Nat) : Wh ((k + 1) * D) ((k + 1) * B) (tk k a i) := by
  have h1 : Wh D B (if i = 0 then 0 else a (i - 1)) := by
    split
    · exact wh_zero D B
    · exact h (i - 1)
  obtain ⟨z1, e1, b1⟩ := h1
  obtain ⟨z2, e2, b2⟩ := h i
  refine ⟨z1 - k * z2, ?_, ?_⟩
  · unfold tk
    have hp := pos_ne k
    have e3 : (((z1 - k * z2 : Int)) : Rat) = (z1 : Rat) - (k : Rat) * (z2 : Rat) := by push_cast; rfl
    rw [e3, ← e1, ← e2]
    have e4 : (((k + 1) * D : Nat) : Rat) = ((k : Rat) + 1) * (D : Rat) := by push_cast; rfl
    rw [e4]
    grind
  · have h3 : (z1 - k * z2).natAbs ≤ z1.natAbs + (k * z2 : Int).natAbs := by omega
    rw [Int.natAbs_mul, Int.natAbs_natCast] at h3
    have h4 := Nat.mul_le_mul_left k b2
    rw [Nat.succ_mul]
    omega
theorem wh_nstP {p : Nat → Rat} {B n : Nat} (hp : ∀ i, i < n → Wh 1 B (p i)) : ∀ d k, k + d = n → ∀ i, Wh (dnP k d) (B * dnP k d * d) (nst tk p k d i)
  | 0, _, _, _ => wh_zero _ _
  | d + 1, k, h, i => by
    have h1 := wh_tk (k := k) (wh_nstP hp d (k + 1) (by omega)) i
    have h2 : Wh (dnP k (d + 1)) (B * dnP k (d + 1)) (if i = 0 then p k else 0) := by
      split
      · have := (hp k (by omega)).scale (dnP k (d + 1))
        rw [Nat.one_mul] at this
        exact this
      · exact wh_zero _ _
    have h3 : Wh (dnP k (d + 1)) ((k + 1) * (B * dnP (k + 1) d * d)) (tk k (nst tk p (k + 1) d) i) := h1
    refine (h2.add h3).le (Nat.le_of_eq ?_)
    show B * ((k + 1) * dnP (k + 1) d) + (k + 1) * (B * dnP (k + 1) d * d) = B * ((k + 1) * dnP (k + 1) d) * (d + 1)
    rw [Nat.mul_succ, Nat.add_comm]
    congr 1
    rw [Nat.mul_left_comm B (k + 1), Nat.mul_assoc (k + 1)]
theorem sz_nstP {p : Nat → Rat} {kP n : Nat} (hn : n ≤ 33) (hp : ∀ i, i < n → Wh 1 (pw kP) (p i)) {d k : Nat} (h : k + d = n) (i : Nat) : Sz (nst tk p k d i) (kP + 7) := by
  have h0 : dnP k d < pw 5 := Nat.lt_of_le_of_lt (dnP_le k d) (fac_lt33 (by omega))
  refine (wh_nstP hp d k h i).sz (dnP_pos d k) (Nat.lt_of_lt_of_le h0 (pw_le (by omega))) ?_ (by omega)
  have h1 : pw kP * dnP k d * d ≤ pw kP * pw 5 * pw 1 := Nat.mul_le_mul (Nat.mul_le_mul_left _ (Nat.le_of_lt h0)) (Nat.le_trans (show d ≤ 33 by omega) (by unfold pw; decide))
  rw [← pw_add, ← pw_add] at h1
  exact Nat.lt_of_le_of_lt h1 (pw_lt (by omega))
theorem wh_nstF {p : Nat → Rat} {B n : Nat} (hn : n ≤ 33) (hp : ∀ i, i < n → Wh 1 B (p i)) : ∀ d k, k + d = n → ∀ i, Wh 1 (B * 68 ^ d) (nst mn p k d i)
  | 0, _, _, _ => wh_zero _ _
  | d + 1, k, h, i => by
    by_cases hi : d + 1 ≤ i
    · rw [nst_none mn p mn_none (d + 1) k i hi]
      exact wh_zero _ _
    have ih := wh_nstF hn hp d (k + 1) (by omega)
    have h2 : Wh 1 B (if i = 0 then p k else 0) := by
      split
      · exact hp k (by omega)
      · exact wh_zero _ _
    have h1 : Wh 1 (B * 68 ^ d) (if i = 0 then 0 else nst mn p (k + 1) d (i - 1)) := by
      split
      · exact wh_zero _ _
      · exact ih (i - 1)
    have hI : Wh 1 33 (i : Rat) := (wh_int (i : Int)).le (by rw [Int.natAbs_natCast]; omega)
    have h3 := (hI.mul h1).add (hI.mul (ih i))
    have h4 : Wh 1 (B + (33 * (B * 68 ^ d) + 33 * (B * 68 ^ d))) (nst mn p k (d + 1) i) := h2.add h3
    refine h4.le ?_
    rw [Nat.pow_succ]
    have : 1 ≤ 68 ^ d := Nat.one_le_pow _ _ (by omega)
    have h5 := Nat.mul_le_mul_left B this
    rw [← Nat.mul_assoc B (68 ^ d) 68]
    generalize B * 68 ^ d = X at h5 ⊢
    omega
theorem sz_nstF {p : Nat → Rat} {kP n : Nat} (hn : n ≤ 33) (hp : ∀ i, i < n → Wh 1 (pw kP) (p i)) {d k : Nat} (h : k + d = n) (i : Nat) : Sz (nst mn p k d i) (kP + 8) := by
  refine sz_le (sz_of_wh1 ((wh_nstF hn hp d k h i).le (B' := pw (kP + 7)) ?_)) (by omega)
  rw [pw_add]
  refine Nat.mul_le_mul_left _ (Nat.le_trans (Nat.pow_le_pow_right (by omega) (show d ≤ 33 by omega)) ?_)
  unfold pw
  decide +kernel
theorem nst_scale (st ri : Nat → Nat → Rat) (p : Nat → Rat) (c : Rat) : ∀ d k i, nst (tG st ri) (fun i => p i * c) k d i = nst (tG st ri) p k d i * c
  | 0, _, _ => (Rat.zero_mul _).symm
  | d + 1, k, i => by
    show (if i = 0 then p k * c else 0) + ((if i = 0 then 0 else ri k (i - 1) * nst (tG st ri) (fun i => p i * c) (k + 1) d (i - 1)) + st k i * nst (tG st ri) (fun i => p i * c) (k + 1) d i) = ((if i = 0 then p k else 0) + ((if i = 0 then 0 else ri k (i - 1) * nst (tG st ri) p (k + 1) d (i - 1)) + st k i * nst (tG st ri) p (k + 1) d i)) * c
    rw [nst_scale st ri p c d (k + 1) i, nst_scale st ri p c d (k + 1) (i - 1)]
    by_cases h : i = 0
    · rw [if_pos h, if_pos h, if_pos h]; grind
    · rw [if_neg h, if_neg h, if_neg h]; grind

theorem run_call78 (a : Act) (d : Option Tmp) (ty : TypeId) (pos : String) (es : Array Edge) (t u : Tmp) (w : World) (x : Value) (h : a.tmps.getD t undef = .func (.func 78) #[] #[]) (h' : a.tmps.getD u undef = x) :
    Sem.run Try.prog (execOp a.eval ⟨d, .call ⟨.value (.tmp t), #[.tmp u], #[32]⟩, ty, pos, es, none⟩) w = .ok (.enter 78 #[x]) w := by go_simp
set_option maxRecDepth 100000 in
theorem powersclo_any (a : Option Addr) (n cap kP : Nat) (P : Nat → Rat) (w : World) (hn : n ≤ 33) (hl : Lst w (.slice a n cap) n P) (hp : ∀ i, i < n → Wh 1 (pw kP) (P i)) (hk : kP ≤ 5900) :
    Calls Try.prog 78 #[.slice a n cap] w (fun e w' => ∃ v, e = .returned v ∧ Lst w' v n (nst tk P 0 n) ∧ Below w.heap.size w w') := by
  have hc := nest_any a n cap (kP + 8) P 80 stP riP w hn hl ⟨callFunc80, fun w k j h1 h2 => stepP_any k j (by omega) w⟩ (fun k j h1 h2 => sz_stP j (by omega)) (fun k j h1 h2 => sz_riP j (by omega)) (fun k d i h => by rw [tG_P]; exact sz_le (sz_nstP hn hp h i) (by omega)) (fun i hi => sz_le (sz_of_wh1 (hp i hi)) (by omega)) (by omega)
  rw [tG_P] at hc
  obtain ⟨H, hH⟩ : ∃ H, nst tk P 0 n = H := ⟨_, rfl⟩
  rw [hH] at hc ⊢
  have HA := Lib.hid hc
  clear hc hl hp hH
  go_enter Try.func78, Try.ntmps78
  go_wp2_with fail
  refine HA.out.mono ?_
  rintro e w1 ⟨v, rfl, hv, hb1⟩
  have HF := Lib.hid (And.intro hv hb1)
  clear hv hb1
  go_wp2
  go_ret
  exact ⟨_, rfl, HF.out.1, HF.out.2⟩
set_option maxRecDepth 100000 in
theorem powers_gen (a : Option Addr) (n cap kl kz KS kP : Nat) (f : Nat → Rat) (w : World) (hn : n ≤ 33) (hl : LstA w (.slice a n cap) n kl f) (hf : ∀ i, i < n → Sz (f i) kz) (hk1 : 1 ≤ kz) (hkk : kl ≤ kz) (hKS : kz * n + 1 ≤ KS) (hKz : KS + kz ≤ 5000)
    (hp : ∀ i, i < n → Wh 1 (pw kP) (f i * ((scl f n : Nat) : Rat))) (hk : kP ≤ 4000) :
    Calls Try.prog 38 #[.slice a n cap] w (ListB (trimN (nst tk f 0 n) n) (nst tk f 0 n) true w) := by
  have hF : FunOk (.func (.func 78) #[] #[]) 78 (fun x => #[x]) n (fun i => f i * ((scl f n : Nat) : Rat)) n (nst tk (fun i => f i * ((scl f n : Nat) : Rat)) 0 n) w :=
    ⟨fun a d ty pos es t u w x h h' => run_call78 a d ty pos es t u w x h h', fun w' b c hb h => powersclo_any b n c kP _ w' hn h hp (by omega)⟩
  have hc := transform_gen a n cap n (kP + 8) kl kz KS f (nst tk (fun i => f i * ((scl f n : Nat) : Rat)) 0 n) (.func (.func 78) #[] #[]) 78 (fun x => #[x]) w hn hl hf hk1 hkk hKS hKz hF (by omega) (fun i _ => sz_le (sz_nstP hn hp (show 0 + n = n by omega) i) (by omega)) (by omega)
  have e : (fun k => nst tk (fun i => f i * ((scl f n : Nat) : Rat)) 0 n k * (1 / ((scl f n : Nat) : Rat))) = nst tk f 0 n := funext fun k => by
    rw [← tG_P, nst_scale, over_scale (scl_ne f n)]
  rw [e] at hc
  obtain ⟨H, hH⟩ : ∃ H, nst tk f 0 n = H := ⟨_, rfl⟩
  rw [hH] at hc ⊢
  have HA := Lib.hid hc
  clear hc hF e hl hf hH hp
  go_enter Try.func38, Try.ntmps38
  go_wp2_with fail
  refine HA.out.mono ?_
  rintro e w1 ⟨v, rfl, hv, hb1⟩
  have HF := Lib.hid (And.intro hv hb1)
  clear hv hb1
  go_wp2
  go_ret2
  exact ⟨_, rfl, HF.out.1, HF.out.2⟩
theorem powers_in (a : Option Addr) (n cap : Nat) (f : Nat → Rat) (w : World) (hn : n ≤ 33) (hl : LstA w (.slice a n cap) n 8 f) (hf : ∀ i, i < n → Sz (f i) 9) : Calls Try.prog 38 #[.slice a n cap] w (ListB (trimN (nst tk f 0 n) n) (nst tk f 0 n) true w) :=
  powers_gen a n cap 8 9 298 308 f w hn hl hf (by omega) (by omega) (by omega) (by omega) (fun i hi => wh_scl hf hi hn) (by omega)
set_option maxRecDepth 100000 in
theorem powers_out (a : Option Addr) (n cap : Nat) (F : Nat → Rat) (w : World) (m1 : n ≤ 9223372036854775807) (h : 33 < n) : Calls Try.prog 38 #[.slice a n cap] w (ListB 0 F false w) := by
  have HA := Lib.hid (transform_out a n cap (.func (.func 78) #[] #[]) F w m1 h)
  go_enter Try.func38, Try.ntmps38
  go_wp2_with fail
  refine HA.out.mono ?_
  rintro e w1 ⟨v, rfl, hv, hb1⟩
  have HF := Lib.hid (And.intro hv hb1)
  clear hv hb1
  go_wp2
  go_ret2
  exact ⟨_, rfl, HF.out.1, HF.out.2⟩

theorem run_call82 (a : Act) (d : Option Tmp) (ty : TypeId) (pos : String) (es : Array Edge) (t u : Tmp) (w : World) (x : Value) (h : a.tmps.getD t undef = .func (.func 82) #[] #[]) (h' : a.tmps.getD u undef = x) :
    Sem.run Try.prog (execOp a.eval ⟨d, .call ⟨.value (.tmp t), #[.tmp u], #[32]⟩, ty, pos, es, none⟩) w = .ok (.enter 82 #[x]) w := by go_simp
set_option maxRecDepth 100000 in
theorem fromPclo_any (a : Option Addr) (n cap kP : Nat) (P : Nat → Rat) (w : World) (hn : n ≤ 33) (hl : Lst w (.slice a n cap) n P) (hp : ∀ i, i < n → Wh 1 (pw kP) (P i)) (hk : kP ≤ 5900) :
    Calls Try.prog 82 #[.slice a n cap] w (fun e w' => ∃ v, e = .returned v ∧ Lst w' v n (nst mn P 0 n) ∧ Below w.heap.size w w') := by
  have hc := nest_any a n cap (kP + 8) P 83 stF riF w hn hl ⟨callFunc83, fun w k j h1 h2 => stepF_any k j (by omega) w⟩ (fun k j h1 h2 => sz_int (by omega) (by omega)) (fun k j h1 h2 => sz_int (by omega) (by omega)) (fun k d i h => by rw [tG_F]; exact sz_le (sz_nstF hn hp h i) (by omega)) (fun i hi => sz_le (sz_of_wh1 (hp i hi)) (by omega)) (by omega)
  rw [tG_F] at hc
  obtain ⟨H, hH⟩ : ∃ H, nst mn P 0 n = H := ⟨_, rfl⟩
  rw [hH] at hc ⊢
  have HA := Lib.hid hc
  clear hc hl hp hH
  go_enter Try.func82, Try.ntmps82
  go_wp2_with fail
  refine HA.out.mono ?_
  rintro e w1 ⟨v, rfl, hv, hb1⟩
  have HF := Lib.hid (And.intro hv hb1)
  clear hv hb1
  go_wp2
  go_ret
  exact ⟨_, rfl, HF.out.1, HF.out.2⟩
set_option maxRecDepth 100000 in
theorem fromP_gen (a : Option Addr) (n cap kl kz KS kP : Nat) (f : Nat → Rat) (w : World) (hn : n ≤ 33) (hl : LstA w (.slice a n cap) n kl f) (hf : ∀ i, i < n → Sz (f i) kz) (hk1 : 1 ≤ kz) (hkk : kl ≤ kz) (hKS : kz * n + 1 ≤ KS) (hKz : KS + kz ≤ 5000)
    (hp : ∀ i, i < n → Wh 1 (pw kP) (f i * ((scl f n : Nat) : Rat))) (hk : kP ≤ 4000) :
    Calls Try.prog 40 #[.slice a n cap] w (ListB (trimN (nst mn f 0 n) n) (nst mn f 0 n) true w) := by
  have hF : FunOk (.func (.func 82) #[] #[]) 82 (fun x => #[x]) n (fun i => f i * ((scl f n : Nat) : Rat)) n (nst mn (fun i => f i * ((scl f n : Nat) : Rat)) 0 n) w :=
    ⟨fun a d ty pos es t u w x h h' => run_call82 a d ty pos es t u w x h h', fun w' b c hb h => fromPclo_any b n c kP _ w' hn h hp (by omega)⟩
  have hc := transform_gen a n cap n (kP + 8) kl kz KS f (nst mn (fun i => f i * ((scl f n : Nat) : Rat)) 0 n) (.func (.func 82) #[] #[]) 82 (fun x => #[x]) w hn hl hf hk1 hkk hKS hKz hF (by omega) (fun i _ => sz_le (sz_nstF hn hp (show 0 + n = n by omega) i) (by omega)) (by omega)
  have e : (fun k => nst mn (fun i => f i * ((scl f n : Nat) : Rat)) 0 n k * (1 / ((scl f n : Nat) : Rat))) = nst mn f 0 n := funext fun k => by
    rw [← tG_F, nst_scale, over_scale (scl_ne f n)]
  rw [e] at hc
  obtain ⟨H, hH⟩ : ∃ H, nst mn f 0 n = H := ⟨_, rfl⟩
  rw [hH] at hc ⊢
  have HA := Lib.hid hc
  clear hc hF e hl hf hH hp
  go_enter Try.func40, Try.ntmps40
  go_wp2_with fail
  refine HA.out.mono ?_
  rintro e w1 ⟨v, rfl, hv, hb1⟩
  have HF := Lib.hid (And.intro hv hb1)
  clear hv hb1
  go_wp2
  go_ret2
  exact ⟨_, rfl, HF.out.1, HF.out.2⟩
theorem fromP_in (a : Option Addr) (n cap : Nat) (f : Nat → Rat) (w : World) (hn : n ≤ 33) (hl : LstA w (.slice a n cap) n 8 f) (hf : ∀ i, i < n → Sz (f i) 9) : Calls Try.prog 40 #[.slice a n cap] w (ListB (trimN (nst mn f 0 n) n) (nst mn f 0 n) true w) :=
  fromP_gen a n cap 8 9 298 308 f w hn hl hf (by omega) (by omega) (by omega) (by omega) (fun i hi => wh_scl hf hi hn) (by omega)
set_option maxRecDepth 100000 in
theorem fromP_out (a : Option Addr) (n cap : Nat) (F : Nat → Rat) (w : World) (m1 : n ≤ 9223372036854775807) (h : 33 < n) : Calls Try.prog 40 #[.slice a n cap] w (ListB 0 F false w) := by
  have HA := Lib.hid (transform_out a n cap (.func (.func 82) #[] #[]) F w m1 h)
  go_enter Try.func40, Try.ntmps40
  go_wp2_with fail
  refine HA.out.mono ?_
  rintro e w1 ⟨v, rfl, hv, hb1⟩
  have HF := Lib.hid (And.intro hv hb1)
  clear hv hb1
  go_wp2
  go_ret2
  exact ⟨_, rfl, HF.out.1, HF.out.2⟩

end Go.Proofs.Ytdpiclmjdcjajaa

/-
  The walk of the reference's FromPowers. Condition: numbers of at most 8 limbs.
-/
namespace Go.Proofs.Ytdpiclmjdcjajaa
open Go.RowKit Num

theorem wh_powQ (q : Nat) : ∀ k, Wh 1 (q ^ k) (powQ (q : Rat) k)
  | 0 => (wh_int 1).le (by rw [Nat.pow_zero]; decide)
  | k + 1 => (wh_powQ q k).mul ((wh_int (q : Int)).le (by rw [Int.natAbs_natCast]; exact Nat.le_refl _))
theorem pow33_le {q k : Nat} (hq : q ≤ 33) (hk : k ≤ 33) : q ^ k ≤ pw 6 := by
  refine Nat.le_trans (Nat.pow_le_pow_left hq k) (Nat.le_trans (Nat.pow_le_pow_right (by omega) hk) ?_)
  unfold pw
  decide +kernel
theorem sz_powQ {q k : Nat} (hq : q ≤ 33) (hk : k ≤ 33) : Sz (powQ (q : Rat) k) 7 := sz_of_wh1 ((wh_powQ q k).le (pow33_le hq hk))
/-- The value of a polynomial given in powers. -/
def vP (f : Nat → Rat) (n : Nat) : Nat → Rat := fun q => sumN (fun k => f k * powQ (q : Rat) k) n
theorem sz_difsP {f : Nat → Rat} {n : Nat} (hf : ∀ i, i < n → Sz (f i) 9) (hn : n ≤ 33) {j i : Nat} (h : j + i < n) : Sz (difs (vP f n) j i) 319 := by
  obtain ⟨E, hE⟩ : ∃ E, 9 * 34 + 2 = E := ⟨_, rfl⟩
  refine sz_difs (D := scl f n) (k := 316) (fun q hq => ?_) (scl_pos f n) (Nat.lt_of_lt_of_le (scl_lt hf n (Nat.le_refl _)) (pw_le (by omega))) hn h
  have h1 := wh_sum (D := scl f n) (B := pw E * pw 6) (f := fun k => f k * powQ (q : Rat) k) n fun k hk => by
    have := (wh_over hf hk hn).mul ((wh_powQ q k).le (pow33_le (q := q) (k := k) (by omega) (by omega)))
    rw [Nat.mul_one, hE] at this
    exact this
  refine h1.le ?_
  rw [← pw_add]
  exact Nat.le_trans (Nat.mul_le_mul_right _ (Nat.le_trans hn (show 33 ≤ pw 1 by unfold pw; decide))) (by rw [← pw_add]; exact pw_le (by omega))
theorem RtO.keep {w w3 : World} {g g2 B : Nat} {s : Rat} {x y z v0 v1 v2 : Value} (h : RtO w g s w3) (hB : BoxV w3 B g2 24 [x, y, z]) (hx : NoLimb [x, y, z]) (hne : g ≠ g2) : RtO w g s (((w3.setCell ⟨g2, 0, none⟩ v0).setCell ⟨g2, 1, none⟩ v1).setCell ⟨g2, 2, none⟩ v2) := by
  obtain ⟨an, ln, cn, ad, ld, cd, h1, h2⟩ := h
  have hgr := grown_set3 w3 g2 v0 v1 v2
  exact ⟨an, ln, cn, ad, ld, cd, h1.kept hgr (by simpa using hne), h2.other hB hx hgr⟩
theorem RtO.below {w w3 w4 : World} {g : Nat} {s : Rat} (h : RtO w g s w3) (hb : Below w3.heap.size w3 w4) : RtO w g s w4 := by
  obtain ⟨an, ln, cn, ad, ld, cd, h1, h2⟩ := h
  exact ⟨an, ln, cn, ad, ld, cd, h1.below hb, h2.below hb⟩
theorem RtO.box {w w3 : World} {g k : Nat} {s : Rat} (h : RtO w g s w3) (hs : Sz s k) : (Ke.box k s).holds w3 (.pointer (some ⟨g, 0, none⟩)) := by
  obtain ⟨an, ln, cn, ad, ld, cd, h1, h2⟩ := h
  exact boxC_of h1 h2 hs

def fp11 (u : Value) (n k : Nat) (f : Nat → Rat) (s x : Rat) : Tmp → Ke := fun t => ([.lsa u n 8 f, .any, .any, .any, .any, .any, .box 600 s, .box 7 x, .con (.int .i64 k), .any, .any, .any, .any, .any, .any, .any, .any, .any, .any, .any, .any, .any, .any, .any, .any, .any, .ra 600 s, .lsa u n 8 f, .con (.int .i64 k), .elA 8 (f k), .ra 8 (f k), .rc 7 x, .rc 17 (f k * x), .ratC (s + f k * x)] : List Ke).getD t .any
def fp12 (q : Nat) (x : Rat) : Tmp → Ke := fun t => ([.any, .any, .any, .any, .any, .con (.int .i64 q), .any, .box 7 x, .any, .any, .any, .any, .any, .any, .any, .any, .any, .any, .any, .any, .any, .any, .any, .any, .any, .any, .any, .any, .any, .any, .any, .any, .any, .any, .ra 7 x, .con (.int .i64 q), .rc 3 (quo (q : Int) 1), .ratC (x * quo (q : Int) 1)] : List Ke).getD t .any

set_option maxRecDepth 100000 in
set_option maxHeartbeats 16000000 in
theorem refFromP_in (a : Option Addr) (n cap : Nat) (f : Nat → Rat) (w : World) (hn : n ≤ 33) (hl : LstA w (.slice a n cap) n 8 f) (hf : ∀ i, i < n → Sz (f i) 9) :
    Calls Try.prog 41 #[.slice a n cap] w (ListB (trimN (nst mn f 0 n) n) (nst mn f 0 n) true w) := by
  have hdif : ∀ k, k < n → difs (vP f n) k 0 = nst mn f 0 n k := fun k hk => by
    have := difs_powers f n k
    rw [if_pos hk] at this
    exact this
  have hsV : ∀ j i, j + i < n → Sz (difs (vP f n) j i) 319 := fun j i h => sz_difsP hf hn h
  have hsum : ∀ q k : Nat, q ≤ 33 → k ≤ n → Sz (sumN (fun k => f k * powQ (q : Rat) k) k) 600 := fun q k hq hk => sz_le (sz_sumK (n := n) (K := 17) (fun i hi => sz_le (sz_mul (hf i hi) (sz_powQ hq (by omega))) (by omega)) k hk) (by omega)
  have hval : ∀ q : Nat, sumN (fun k => f k * powQ (q : Rat) k) n = vP f n q := fun q => rfl
  have htr : trimN (fun k => difs (vP f n) k 0) n = trimN (nst mn f 0 n) n := trimN_congr n hdif
  have htN := trimN_le (nst mn f 0 n) n
  obtain ⟨V, hV⟩ : ∃ V, vP f n = V := ⟨_, rfl⟩
  obtain ⟨H, hH⟩ : ∃ H, nst mn f 0 n = H := ⟨_, rfl⟩
  rw [hV] at hsV htr
  simp only [hV] at hdif hval
  rw [hH] at htr htN ⊢
  simp only [hH] at hdif
  have HA := Lib.hid (And.intro hl (And.intro hf (And.intro hsV (And.intro hsum (And.intro hval (And.intro hdif (And.intro htr htN)))))))
  clear hl hf hsV hsum hval hdif htr htN hV hH
  go_enter Try.func41, Try.ntmps41
  go_wp2_with fail
  go_loopw [4, 5] (fun v x wr => ∃ q : Nat, q ≤ n ∧ x = .int .i64 q ∧ OutR w.heap.size q V v wr ∧ Below w.heap.size w wr) (fun _ x _ => n - (intOf x).toNat)
  case atStart => exact ⟨0, Nat.zero_le _, rfl, OutR.nil _ _ _, Below.refl _ _⟩
  case round =>
    obtain ⟨q, hq, rfl, hO, hbel⟩ := hrel
    by_cases hlt : q < n
    · have hqi : (q : Int) < (n : Int) := by omega
      have HR := Lib.hid (And.intro hO hbel)
      clear hO hbel
      go_wp2_with fail
      refine (refFromInt_any 0 _ (by omega) (by omega)).mono ?_
      rintro e w4 ⟨v4, rfl, hv4, hb4⟩
      rw [quo_zero] at hv4
      have H4 := Lib.hid (And.intro hv4 hb4)
      obtain ⟨p1, p2, p3, p4, p5, p6, rfl, _⟩ := hv4
      obtain ⟨sa, hsa⟩ : ∃ s, decide ((0 : Rat).num < 0) = s := ⟨_, rfl⟩
      rw [hsa]
      clear hb4
      go_wp2_with fail
      refine (refFromInt_any 1 _ (by omega) (by omega)).mono ?_
      rintro e w5 ⟨v5, rfl, hv5, hb5⟩
      rw [quo_one] at hv5
      have hv5' := hv5
      obtain ⟨q1, q2, q3, q4, q5, q6, rfl, _⟩ := hv5
      obtain ⟨sb, hsb⟩ : ∃ s, decide ((1 : Rat).num < 0) = s := ⟨_, rfl⟩
      have hr4 := H4.out.1.below hb5
      have hb6 := below_alloc1 w5 (.cells #[.bool sa, .slice p1 p2 p3, .slice p4 p5 p6] 24)
      have hb7 := below_alloc1 (w5.alloc (.cells #[.bool sa, .slice p1 p2 p3, .slice p4 p5 p6] 24)) (.cells #[.bool sb, .slice q1 q2 q3, .slice q4 q5 q6] 24)
      have hz : (w5.alloc (.cells #[.bool sa, .slice p1 p2 p3, .slice p4 p5 p6] 24)).heap.size = w5.heap.size + 1 := Array.size_push _
      have hB6 := (BoxV.new w5 w5.heap.size 24 (Nat.le_refl _) [.bool sa, .slice p1 p2 p3, .slice p4 p5 p6]).below hb7
      have hB7 := BoxV.new (w5.alloc (.cells #[.bool sa, .slice p1 p2 p3, .slice p4 p5 p6] 24)) w5.heap.size 24 (by rw [hz]; exact Nat.le_succ _) [.bool sb, .slice q1 q2 q3, .slice q4 q5 q6]
      rw [hz] at hB7
      have hbb := below_next' hb6 hb7
      have ho6 : RtO w5 w5.heap.size 0 ((w5.alloc (.cells #[.bool sa, .slice p1 p2 p3, .slice p4 p5 p6] 24)).alloc (.cells #[.bool sb, .slice q1 q2 q3, .slice q4 q5 q6] 24)) := ⟨p1, p2, p3, p4, p5, p6, by rw [hsa]; exact hB6, hr4.below hbb⟩
      have ho7 : RtO w5 (w5.heap.size + 1) 1 ((w5.alloc (.cells #[.bool sa, .slice p1 p2 p3, .slice p4 p5 p6] 24)).alloc (.cells #[.bool sb, .slice q1 q2 q3, .slice q4 q5 q6] 24)) := ⟨q1, q2, q3, q4, q5, q6, by rw [hsb]; exact hB7, hv5'.below hbb⟩
      have hb35 := below_next' H4.out.2 hb5
      have H5 := Lib.hid (And.intro (HR.out.1.below hb35) (And.intro (below_next' HR.out.2 hb35) (And.intro ho6 (And.intro ho7 hbb))))
      clear hv5' hr4 hb5 hb6 hb7 hz hB6 hB7 hbb ho6 ho7 hb35
      rw [hsb]
      clear hsa hsb
      go_wp2_with fail
      go_loopw [8] (fun x wr => ∃ k : Nat, k ≤ n ∧ x = .int .i64 k ∧ RtO w5 w5.heap.size (sumN (fun k => f k * powQ (q : Rat) k) k) wr ∧ RtO w5 (w5.heap.size + 1) (powQ (q : Rat) k) wr ∧ Below w5.heap.size w5 wr) (fun x _ => n - (intOf x).toNat)
      case atStart => exact ⟨0, Nat.zero_le _, rfl, H5.out.2.2.1, H5.out.2.2.2.1, H5.out.2.2.2.2⟩
      case round =>
        obtain ⟨k, hk, rfl, h6, h7, hbl⟩ := hrel
        by_cases hltk : k < n
        · have hki : (k : Int) < (n : Int) := by omega
          obtain ⟨SS, hSS⟩ : ∃ SS : Nat → Rat, (fun k => sumN (fun k => f k * powQ (q : Rat) k) k) = SS := ⟨_, rfl⟩
          have hSk : ∀ k, sumN (fun k => f k * powQ (q : Rat) k) k = SS k := fun k => by rw [← hSS]
          have hSn : SS k + f k * powQ (q : Rat) k = SS (k + 1) := by rw [← hSS]; rfl
          rw [hSk] at h6
          have hss : Sz (SS k) 600 := by rw [← hSk]; exact HA.out.2.2.2.1 q k (by omega) (by omega)
          have hxs : Sz (powQ (q : Rat) k) 7 := sz_powQ (by omega) (by omega)
          have H8 := Lib.hid (And.intro (HA.out.1.below (below_next' H5.out.2.1 hbl)) (And.intro h6 (And.intro h7 (And.intro hbl (And.intro hss (And.intro hxs (And.intro hSn hSk)))))))
          clear h6 h7 hbl hss hxs hSn hSk hSS
          go_wp2_with fail
          refine region_flow_tail (Fe (fp11 (.slice a n cap) n k f (SS k) (powQ (q : Rat) k))) (by rfl) (Fe.mono _) 44 8 [] (by rfl) (by kernel_rfl) (by kernel_rfl) (by kernel_rfl) (by kernel_rfl) (fun t ht => by cases ht) [0, 6, 7, 8] (by kernel_rfl) ?g0 (Fe.draw _) ?gs ?gf
          case g0 =>
            intro t ht
            simp only [List.mem_cons, List.not_mem_nil, or_false] at ht
            rcases ht with rfl | rfl | rfl | rfl
            · exact ⟨rfl, H8.out.1⟩
            · exact H8.out.2.1.box H8.out.2.2.2.2.1
            · exact H8.out.2.2.1.box H8.out.2.2.2.2.2.1
            · rfl
          case gs =>
            exact ⟨flowN_of (e_loadC rfl rfl) (by decide), flowN_of (e_move rfl) (by decide), flowN_of (e_move rfl) (by decide), flowN_of (e_indexA rfl rfl rfl hltk) (by decide), flowN_of (e_loadEA rfl rfl) (by decide), flowN_of (e_loadR rfl rfl) (by decide), flowN_of (e_mul4 rfl rfl rfl (sz_le (sz_mul (HA.out.2.1 k hltk) H8.out.2.2.2.2.2.1) (Nat.le_refl _)) (by omega)) (by decide), flowN_of (e_add4 rfl rfl rfl (by omega)) (by decide), trivial⟩
          intro a3 w6 hb6 hsz6 hdf6 hfacts hout _
          have f33 : RatC w6 (a3.tmps.getD 33 undef) (SS k + f k * powQ (q : Rat) k) := hfacts 7 33 (by decide) rfl
          rw [H8.out.2.2.2.2.2.2.1] at f33
          have hszn : a3.tmps.size = 44 := hsz6
          have hdfn : a3.defers = [] := hdf6
          obtain ⟨c1, c2, c3, c4, c5, c6, hBx, hRx⟩ := H8.out.2.1.below hb6
          have e6' : a3.tmps.getD 6 undef = .pointer (some ⟨w5.heap.size, 0, none⟩) := hout 6 (free_of (by kernel_rfl))
          change runFrom _ _ _ 1 8 a3 w6
          simp only [runFrom]
          refine e_store (t := 6) (u := 33) rfl e6' hBx f33 fun an' ln' cn' ad' ld' cd' hR => ?_
          have hn6 := RtO.next hBx (noLimb_rat _ _ _ _ _ _ _) hR
          have hn7 := (H8.out.2.2.1.below hb6).keep (v0 := .bool (decide ((SS (k + 1)).num < 0))) (v1 := .slice an' ln' cn') (v2 := .slice ad' ld' cd') hBx (noLimb_rat _ _ _ _ _ _ _) (by omega)
          have hnb := below_set3 (below_next' H8.out.2.2.2.1 hb6) hBx.block.1 (.bool (decide ((SS (k + 1)).num < 0))) (.slice an' ln' cn') (.slice ad' ld' cd')
          have H9 := Lib.hid (And.intro hn6 (And.intro hn7 hnb))
          generalize (((w6.setCell ⟨w5.heap.size, 0, none⟩ (.bool (decide ((SS (k + 1)).num < 0)))).setCell ⟨w5.heap.size, 1, none⟩ (.slice an' ln' cn')).setCell ⟨w5.heap.size, 2, none⟩ (.slice ad' ld' cd')) = w7 at H9 ⊢
          have e0 : a3.tmps.getD 0 undef = .slice a n cap := hout 0 (free_of (by kernel_rfl))
          have e1 : a3.tmps.getD 1 undef = undef := hout 1 (free_of (by kernel_rfl))
          have e2 : a3.tmps.getD 2 undef = .slice none 0 0 := hout 2 (free_of (by kernel_rfl))
          have e3 : a3.tmps.getD 3 undef = .bool false := hout 3 (free_of (by kernel_rfl))
          have e4 : a3.tmps.getD 4 undef = u4 := hout 4 (free_of (by kernel_rfl))
          have e5 : a3.tmps.getD 5 undef = .int .i64 q := hout 5 (free_of (by kernel_rfl))
          have e6 : a3.tmps.getD 6 undef = .pointer (some ⟨w5.heap.size, 0, none⟩) := hout 6 (free_of (by kernel_rfl))
          have e7 : a3.tmps.getD 7 undef = .pointer (some ⟨w5.heap.size + 1, 0, none⟩) := hout 7 (free_of (by kernel_rfl))
          have e8 : a3.tmps.getD 8 undef = .int .i64 k := hout 8 (free_of (by kernel_rfl))
          have e9 : a3.tmps.getD 9 undef = .slice a n cap := hout 9 (free_of (by kernel_rfl))
          have e10 : a3.tmps.getD 10 undef = .int .i64 n := hout 10 (free_of (by kernel_rfl))
          have e11 : a3.tmps.getD 11 undef = .bool (decide (33 < (n : Int))) := hout 11 (free_of (by kernel_rfl))
          have e12 : a3.tmps.getD 12 undef = .int .i64 q := hout 12 (free_of (by kernel_rfl))
          have e13 : a3.tmps.getD 13 undef = .slice a n cap := hout 13 (free_of (by kernel_rfl))
          have e14 : a3.tmps.getD 14 undef = .int .i64 n := hout 14 (free_of (by kernel_rfl))
          have e15 : a3.tmps.getD 15 undef = .bool true := hout 15 (free_of (by kernel_rfl))
          have e16 : a3.tmps.getD 16 undef = u16 := hout 16 (free_of (by kernel_rfl))
          have e17 : a3.tmps.getD 17 undef = u17 := hout 17 (free_of (by kernel_rfl))
          have e18 : a3.tmps.getD 18 undef = .agg #[.bool sa, .slice p1 p2 p3, .slice p4 p5 p6] := hout 18 (free_of (by kernel_rfl))
          have e19 : a3.tmps.getD 19 undef = .agg #[.bool sb, .slice q1 q2 q3, .slice q4 q5 q6] := hout 19 (free_of (by kernel_rfl))
          have e38 : a3.tmps.getD 38 undef = u38 := hout 38 (free_of (by kernel_rfl))
          have e39 : a3.tmps.getD 39 undef = u39 := hout 39 (free_of (by kernel_rfl))
          have e40 : a3.tmps.getD 40 undef = u40 := hout 40 (free_of (by kernel_rfl))
          have e41 : a3.tmps.getD 41 undef = u41 := hout 41 (free_of (by kernel_rfl))
          have e42 : a3.tmps.getD 42 undef = undef := hout 42 (free_of (by kernel_rfl))
          have e43 : a3.tmps.getD 43 undef = undef := hout 43 (free_of (by kernel_rfl))
          obtain ⟨va, hu⟩ : ∃ u : Nat → Value, ∀ t, a3.tmps.getD t undef = u t := ⟨_, fun _ => rfl⟩
          have ha := act_eq a3 44 hszn hdfn
          simp only [hu] at ha e0 e1 e2 e3 e4 e5 e6 e7 e8 e9 e10 e11 e12 e13 e14 e15 e16 e17 e18 e19 e38 e39 e40 e41 e42 e43
          have ha' : a3 = ⟨#[va 0, va 1, va 2, va 3, va 4, va 5, va 6, va 7, va 8, va 9, va 10, va 11, va 12, va 13, va 14, va 15, va 16, va 17, va 18, va 19, va 20, va 21, va 22, va 23, va 24, va 25, va 26, va 27, va 28, va 29, va 30, va 31, va 32, va 33, va 34, va 35, va 36, va 37, va 38, va 39, va 40, va 41, va 42, va 43], []⟩ := ha
          rw [e0, e1, e2, e3, e4, e5, e6, e7, e8, e9, e10, e11, e12, e13, e14, e15, e16, e17, e18, e19, e38, e39, e40, e41, e42, e43] at ha'
          clear ha hu e0 e1 e2 e3 e4 e5 e6 e7 e8 e9 e10 e11 e12 e13 e14 e15 e16 e17 e18 e19 e38 e39 e40 e41 e42 e43 hszn hdfn e6' hfacts hout hsz6 hdf6 f33 hb6 hn6 hn7 hnb hBx hRx hR
          subst ha'
          go_wp2_with fail
          refine region_flow_tail (Fe (fp12 q (powQ (q : Rat) k))) (by rfl) (Fe.mono _) 44 4 [] (by rfl) (by kernel_rfl) (by kernel_rfl) (by kernel_rfl) (by kernel_rfl) (fun t ht => by cases ht) [5, 7] (by kernel_rfl) ?h0 (Fe.draw _) ?hs ?hf
          case h0 =>
            intro t ht
            simp only [List.mem_cons, List.not_mem_nil, or_false] at ht
            rcases ht with rfl | rfl
            · rfl
            · exact H9.out.2.1.box H8.out.2.2.2.2.2.1
          case hs =>
            exact ⟨flowN_of (e_loadC rfl rfl) (by decide), flowN_of (e_move rfl) (by decide), flowN_of (e_fromI (n := (q : Int)) rfl rfl (by omega) (by omega) (sz_int (by omega) (by omega))) (by decide), flowN_of (e_mul2 rfl rfl rfl (by omega)) (by decide), trivial⟩
          intro a3 w8 hb8 hsz8 hdf8 hfacts hout _
          have f37 : RatC w8 (a3.tmps.getD 37 undef) (powQ (q : Rat) k * quo (q : Int) 1) := hfacts 3 37 (by decide) rfl
          have hpn : powQ (q : Rat) k * quo (q : Int) 1 = powQ (q : Rat) (k + 1) := by rw [quo_castN]; rfl
          rw [hpn] at f37
          have hszn : a3.tmps.size = 44 := hsz8
          have hdfn : a3.defers = [] := hdf8
          obtain ⟨c1, c2, c3, c4, c5, c6, hBx, hRx⟩ := H9.out.2.1.below hb8
          have e7' : a3.tmps.getD 7 undef = .pointer (some ⟨w5.heap.size + 1, 0, none⟩) := hout 7 (free_of (by kernel_rfl))
          change runFrom _ _ _ 1 4 a3 w8
          simp only [runFrom]
          refine e_store (t := 7) (u := 37) rfl e7' hBx f37 fun an' ln' cn' ad' ld' cd' hR => ?_
          have hn7 := RtO.next hBx (noLimb_rat _ _ _ _ _ _ _) hR
          have hn6 := (H9.out.1.below hb8).keep (v0 := .bool (decide ((powQ (q : Rat) (k + 1)).num < 0))) (v1 := .slice an' ln' cn') (v2 := .slice ad' ld' cd') hBx (noLimb_rat _ _ _ _ _ _ _) (by omega)
          have hnb := below_set3 (below_next' H9.out.2.2 hb8) hBx.block.1 (.bool (decide ((powQ (q : Rat) (k + 1)).num < 0))) (.slice an' ln' cn') (.slice ad' ld' cd')
          rw [← H8.out.2.2.2.2.2.2.2 (k + 1)] at hn6
          have HN := Lib.hid (And.intro hn6 (And.intro hn7 hnb))
          generalize (((w8.setCell ⟨w5.heap.size + 1, 0, none⟩ (.bool (decide ((powQ (q : Rat) (k + 1)).num < 0)))).setCell ⟨w5.heap.size + 1, 1, none⟩ (.slice an' ln' cn')).setCell ⟨w5.heap.size + 1, 2, none⟩ (.slice ad' ld' cd')) = w9 at HN ⊢
          have e0 : a3.tmps.getD 0 undef = .slice a n cap := hout 0 (free_of (by kernel_rfl))
          have e1 : a3.tmps.getD 1 undef = undef := hout 1 (free_of (by kernel_rfl))
          have e2 : a3.tmps.getD 2 undef = .slice none 0 0 := hout 2 (free_of (by kernel_rfl))
          have e3 : a3.tmps.getD 3 undef = .bool false := hout 3 (free_of (by kernel_rfl))
          have e4 : a3.tmps.getD 4 undef = u4 := hout 4 (free_of (by kernel_rfl))
          have e5 : a3.tmps.getD 5 undef = .int .i64 q := hout 5 (free_of (by kernel_rfl))
          have e6 : a3.tmps.getD 6 undef = .pointer (some ⟨w5.heap.size, 0, none⟩) := hout 6 (free_of (by kernel_rfl))
          have e7 : a3.tmps.getD 7 undef = .pointer (some ⟨w5.heap.size + 1, 0, none⟩) := hout 7 (free_of (by kernel_rfl))
          have e8 : a3.tmps.getD 8 undef = .int .i64 k := hout 8 (free_of (by kernel_rfl))
          have e9 : a3.tmps.getD 9 undef = .slice a n cap := hout 9 (free_of (by kernel_rfl))
          have e10 : a3.tmps.getD 10 undef = .int .i64 n := hout 10 (free_of (by kernel_rfl))
          have e11 : a3.tmps.getD 11 undef = .bool (decide (33 < (n : Int))) := hout 11 (free_of (by kernel_rfl))
          have e12 : a3.tmps.getD 12 undef = .int .i64 q := hout 12 (free_of (by kernel_rfl))
          have e13 : a3.tmps.getD 13 undef = .slice a n cap := hout 13 (free_of (by kernel_rfl))
          have e14 : a3.tmps.getD 14 undef = .int .i64 n := hout 14 (free_of (by kernel_rfl))
          have e15 : a3.tmps.getD 15 undef = .bool true := hout 15 (free_of (by kernel_rfl))
          have e16 : a3.tmps.getD 16 undef = u16 := hout 16 (free_of (by kernel_rfl))
          have e17 : a3.tmps.getD 17 undef = u17 := hout 17 (free_of (by kernel_rfl))
          have e18 : a3.tmps.getD 18 undef = .agg #[.bool sa, .slice p1 p2 p3, .slice p4 p5 p6] := hout 18 (free_of (by kernel_rfl))
          have e19 : a3.tmps.getD 19 undef = .agg #[.bool sb, .slice q1 q2 q3, .slice q4 q5 q6] := hout 19 (free_of (by kernel_rfl))
          have e38 : a3.tmps.getD 38 undef = u38 := hout 38 (free_of (by kernel_rfl))
          have e39 : a3.tmps.getD 39 undef = u39 := hout 39 (free_of (by kernel_rfl))
          have e40 : a3.tmps.getD 40 undef = u40 := hout 40 (free_of (by kernel_rfl))
          have e41 : a3.tmps.getD 41 undef = u41 := hout 41 (free_of (by kernel_rfl))
          have e42 : a3.tmps.getD 42 undef = undef := hout 42 (free_of (by kernel_rfl))
          have e43 : a3.tmps.getD 43 undef = undef := hout 43 (free_of (by kernel_rfl))
          obtain ⟨vb, hu⟩ : ∃ u : Nat → Value, ∀ t, a3.tmps.getD t undef = u t := ⟨_, fun _ => rfl⟩
          have ha := act_eq a3 44 hszn hdfn
          simp only [hu] at ha e0 e1 e2 e3 e4 e5 e6 e7 e8 e9 e10 e11 e12 e13 e14 e15 e16 e17 e18 e19 e38 e39 e40 e41 e42 e43
          have ha' : a3 = ⟨#[vb 0, vb 1, vb 2, vb 3, vb 4, vb 5, vb 6, vb 7, vb 8, vb 9, vb 10, vb 11, vb 12, vb 13, vb 14, vb 15, vb 16, vb 17, vb 18, vb 19, vb 20, vb 21, vb 22, vb 23, vb 24, vb 25, vb 26, vb 27, vb 28, vb 29, vb 30, vb 31, vb 32, vb 33, vb 34, vb 35, vb 36, vb 37, vb 38, vb 39, vb 40, vb 41, vb 42, vb 43], []⟩ := ha
          rw [e0, e1, e2, e3, e4, e5, e6, e7, e8, e9, e10, e11, e12, e13, e14, e15, e16, e17, e18, e19, e38, e39, e40, e41, e42, e43] at ha'
          clear ha hu e0 e1 e2 e3 e4 e5 e6 e7 e8 e9 e10 e11 e12 e13 e14 e15 e16 e17 e18 e19 e38 e39 e40 e41 e42 e43 hszn hdfn e7' hfacts hout hsz8 hdf8 f37 hb8 hn6 hn7 hnb hBx hRx hR hpn
          subst ha'
          go_wp2
          go_roundw
          case rel => exact ⟨k + 1, by omega, by go_num, HN.out⟩
          case measure => simp [intOf] <;> omega
        · obtain rfl : k = n := by omega
          rw [HA.out.2.2.2.2.1] at h6
          obtain ⟨c1, c2, c3, c4, c5, c6, hBx, hRx⟩ := h6
          obtain ⟨⟨y0, y1, y2⟩, _⟩ := hBx.three
          obtain ⟨s, hs⟩ : ∃ s, decide ((V q).num < 0) = s := ⟨_, rfl⟩
          rw [hs] at y0 hRx
          have hb12 := fun cs => below_alloc1 wr (.cells cs 24)
          have hbw := below_next' H5.out.2.1 hbl
          have H12 := Lib.hid (And.intro (H5.out.1.below hbl) (And.intro hRx (And.intro hbw hb12)))
          clear h7 hbl hBx hRx hs hb12 hbw hltk
          go_wp2_with (at_builtin; refine wpList_append_rat rfl _ _ rfl w.heap.size q V _ rfl (H12.out.1.below (H12.out.2.2.2 _)) ⟨wr.heap.size, 0, none⟩ 1 _ _ _ rfl (three_new _ _ _ _ _ _ rfl) (H12.out.2.1.below (H12.out.2.2.2 _)) (by omega) (below_next' H12.out.2.2.1 (H12.out.2.2.2 _)).size ?_; intro v' w13 hO3 hgr3)
          have HN := Lib.hid (And.intro hO3 ((below_next' H12.out.2.2.1 (H12.out.2.2.2 _)).grown hgr3 (below_next' H12.out.2.2.1 (H12.out.2.2.2 _)).size (fun k hk => (H12.out.1.own k hk).1)))
          clear hO3 hgr3
          go_wp2
          go_roundw
          case rel => exact ⟨q + 1, by omega, by go_num, HN.out⟩
          case measure => simp [intOf] <;> omega
    · obtain rfl : q = n := by omega
      obtain ⟨va, vc, rfl⟩ : ∃ va vc, u4 = .slice va q vc := by
        obtain ⟨va, vc, e, _⟩ := hO.lst
        exact ⟨va, vc, e⟩
      have HR := Lib.hid (And.intro (hO.lst.toA (k := 319) fun i hi => HA.out.2.2.1 0 i (by omega)) hbel)
      clear hO hbel hlt
      go_wp2_with fail
      refine (differences_any va q vc 319 V _ (by omega) HR.out.1 HA.out.2.2.1 (by omega)).mono ?_
      rintro e w5 ⟨v5, rfl, hv5, hb5⟩
      rw [HA.out.2.2.2.2.2.2.1] at hv5
      have hv6 := hv5.congr fun i hi => HA.out.2.2.2.2.2.1 i (Nat.lt_of_lt_of_le hi HA.out.2.2.2.2.2.2.2)
      have HF := Lib.hid (And.intro hv6 (below_next' HR.out.2 hb5))
      clear hv5 hv6 hb5
      go_wp2
      go_ret2
      exact ⟨_, rfl, HF.out.1, HF.out.2⟩
set_option maxRecDepth 100000 in
theorem refFromP_out (a : Option Addr) (n cap : Nat) (F : Nat → Rat) (w : World) (m1 : n ≤ 9223372036854775807) (h : 33 < n) : Calls Try.prog 41 #[.slice a n cap] w (ListB 0 F false w) := by
  go_enter Try.func41, Try.ntmps41
  go_wp2
  go_ret2
  exact ⟨_, rfl, Lst.nil _ _, Below.refl _ _⟩
end Go.Proofs.Ytdpiclmjdcjajaa

/-
  The walk of the reference's Powers. Condition: numbers of at most 8 limbs.
-/
namespace Go.Proofs.Ytdpiclmjdcjajaa
open Go.RowKit Num

theorem wh_rowC : ∀ k i, Wh (fac k) (fac k) (rowC k i)
  | 0, i => by
    show Wh 1 1 (e0 i)
    unfold e0
    split
    · exact (wh_int 1).le (by decide)
    · exact wh_zero _ _
  | k + 1, i => by
    have h := wh_tk (k := k) (wh_rowC k) i
    rw [Nat.mul_comm] at h
    exact h
theorem sz_rowC {k : Nat} (i : Nat) (hk : k ≤ 33) : Sz (rowC k i) 5 := (wh_rowC k i).sz (fac_pos k) (fac_lt33 (by omega)) (fac_lt33 (by omega)) (by omega)
/-- What one element of the row gives. -/
def xT (k : Nat) (a : Nat → Rat) (j : Nat) : Rat := a j / quo ((k : Int) + 1) 1
def nxT (k : Nat) (a : Nat → Rat) (j i : Nat) : Rat := (if i = 0 then 0 else if i ≤ j then xT k a (i - 1) else 0) - (if i < j then xT k a i * quo (k : Int) 1 else 0)
def mdT (k : Nat) (a : Nat → Rat) (j i : Nat) : Rat := if i = j then nxT k a j j else nxT k a (j + 1) i
theorem nxT_zero (k : Nat) (a : Nat → Rat) (i : Nat) : nxT k a 0 i = 0 := by
  unfold nxT
  by_cases h : i = 0
  · rw [if_pos h, if_neg (by omega)]; grind
  · rw [if_neg h, if_neg (by omega), if_neg (by omega)]; grind
theorem mdT_at (k : Nat) (a : Nat → Rat) (j : Nat) : nxT k a j (j + 1) + xT k a j = mdT k a j (j + 1) := by
  unfold mdT nxT
  rw [if_neg (by omega), if_neg (by omega), if_neg (by omega), if_neg (by omega), if_neg (by omega), if_pos (Nat.le_refl _), if_neg (by omega), Nat.add_sub_cancel]
  grind
theorem mdT_other {k : Nat} {a : Nat → Rat} {j i : Nat} (h : i ≠ j + 1) : mdT k a j i = nxT k a j i := by
  unfold mdT
  by_cases hi : i = j
  · rw [if_pos hi, hi]
  · rw [if_neg hi]
    unfold nxT
    by_cases h1 : i < j
    · rw [if_pos (show i ≤ j + 1 by omega), if_pos (show i ≤ j by omega), if_pos (show i < j + 1 by omega), if_pos h1]
    · rw [if_neg (show ¬ i ≤ j + 1 by omega), if_neg (show ¬ i ≤ j by omega), if_neg (show ¬ i < j + 1 by omega), if_neg h1]
theorem nxT_at (k : Nat) (a : Nat → Rat) (j : Nat) : mdT k a j j - xT k a j * quo (k : Int) 1 = nxT k a (j + 1) j := by
  unfold mdT nxT
  rw [if_pos rfl, if_neg (Nat.lt_irrefl j), if_pos (Nat.lt_succ_self j), if_pos (Nat.le_refl j), if_pos (Nat.le_succ j)]
  grind
theorem nxT_other {k : Nat} {a : Nat → Rat} {j i : Nat} (h : i ≠ j) : nxT k a (j + 1) i = mdT k a j i := by
  unfold mdT
  rw [if_neg h]
theorem quo_ovk (k : Nat) : quo ((k : Int) + 1) 1 = (k : Rat) + 1 := by
  have := quo_castN (k + 1)
  rw [show ((k + 1 : Nat) : Int) = (k : Int) + 1 from rfl] at this
  rw [this]
  push_cast
  rfl
theorem nxT_end (k i : Nat) : nxT k (rowC k) (k + 1) i = rowC (k + 1) i := by
  have hp := pos_ne k
  show _ = tk k (rowC k) i
  unfold nxT xT tk
  rw [quo_ovk, quo_castN]
  by_cases h0 : i = 0
  · subst h0
    rw [if_pos rfl, if_pos rfl, if_pos (by omega)]
    grind
  · rw [if_neg h0, if_neg h0]
    by_cases h1 : i < k + 1
    · rw [if_pos (by omega), if_pos h1]
      grind
    · rw [if_neg h1, rowC_none k i (by omega)]
      by_cases h2 : i ≤ k + 1
      · rw [if_pos h2]
        grind
      · rw [if_neg h2, rowC_none k (i - 1) (by omega)]
        grind
theorem sz_zero1 : Sz 0 1 := sz_of_small (by decide) (by decide)
theorem sz_xT {k j : Nat} {a : Nat → Rat} (ha : ∀ i, Sz (a i) 5) (hk : k ≤ 33) : Sz (xT k a j) 9 := sz_le (sz_div (ha j) (sz_int (n := (k : Int) + 1) (by omega) (by omega))) (Nat.le_refl _)
theorem sz_nxT {k j i : Nat} {a : Nat → Rat} (ha : ∀ i, Sz (a i) 5) (hk : k ≤ 33) : Sz (nxT k a j i) 30 := by
  unfold nxT
  refine sz_le (sz_sub (a := 9) (b := 13) ?_ ?_) (by omega)
  · split
    · exact sz_le sz_zero1 (by omega)
    · split
      · exact sz_xT ha hk
      · exact sz_le sz_zero1 (by omega)
  · split
    · exact sz_le (sz_mul (sz_xT ha hk) (sz_int (n := (k : Int)) (by omega) (by omega))) (by omega)
    · exact sz_le sz_zero1 (by omega)
theorem sz_mdT {k j i : Nat} {a : Nat → Rat} (ha : ∀ i, Sz (a i) 5) (hk : k ≤ 33) : Sz (mdT k a j i) 30 := by
  unfold mdT
  split
  · exact sz_nxT ha hk
  · exact sz_nxT ha hk
/-- The sum within a row. -/
def pOut (f : Nat → Rat) (k j i : Nat) : Rat := sumN (fun k => f k * rowC k i) k + (if i < j then f k * rowC k i else 0)
theorem pOut_zero (f : Nat → Rat) (k i : Nat) : sumN (fun k => f k * rowC k i) k = pOut f k 0 i := by
  unfold pOut
  rw [if_neg (by omega)]
  grind
theorem pOut_at (f : Nat → Rat) (k j : Nat) : pOut f k j j + f k * rowC k j = pOut f k (j + 1) j := by
  unfold pOut
  rw [if_neg (by omega), if_pos (by omega)]
  grind
theorem pOut_other {f : Nat → Rat} {k j i : Nat} (h : i ≠ j) : pOut f k (j + 1) i = pOut f k j i := by
  unfold pOut
  by_cases h1 : i < j
  · rw [if_pos h1, if_pos (by omega)]
  · rw [if_neg h1, if_neg (by omega)]
theorem pOut_end (f : Nat → Rat) (k i : Nat) : pOut f k (k + 1) i = sumN (fun k => f k * rowC k i) (k + 1) := by
  unfold pOut
  by_cases h : i < k + 1
  · rw [if_pos h]; rfl
  · rw [if_neg h]
    show _ = sumN (fun k => f k * rowC k i) k + f k * rowC k i
    rw [rowC_none k i (by omega)]
    grind
theorem sz_pOut {f : Nat → Rat} {n k j i : Nat} (hf : ∀ i, i < n → Sz (f i) 9) (hn : n ≤ 33) (hk : k < n) : Sz (pOut f k j i) 600 := by
  have h : ∀ m, m ≤ n → Sz (sumN (fun k => f k * rowC k i) m) 600 := fun m hm => sz_le (sz_sumK (n := n) (K := 15) (fun l hl => sz_le (sz_mul (hf l hl) (sz_rowC i (by omega))) (Nat.le_refl _)) m hm) (by omega)
  unfold pOut
  split
  · exact h (k + 1) hk
  · have := h k (by omega)
    rw [Rat.add_zero]
    exact this
theorem LstA.one {w : World} {b : Bool} {p q : Option Addr} {n c m e K : Nat} {f : Nat → Rat} (h : RatC w (.agg #[.bool b, .slice p n c, .slice q m e]) (f 0)) (hs : Sz (f 0) K) : LstA (w.alloc (.cells #[.bool b, .slice p n c, .slice q m e] 24)) (.slice (some ⟨w.heap.size, 0, none⟩) 1 1) 1 K f := by
  have hc := three_new w (.bool b) (.slice p n c) (.slice q m e) 24 _ rfl
  refine ⟨_, _, rfl, Nat.le_refl _, by omega, fun i hi => ?_⟩
  obtain rfl : i = 0 := by omega
  exact ⟨_, 0, _, _, _, rfl, hc 0 _ rfl, hc 1 _ rfl, hc 2 _ rfl, (h.below (below_alloc1 _ _)).a hs⟩
theorem LstA.blk {w : World} {g o n cap k : Nat} {f : Nat → Rat} (h : LstA w (.slice (some ⟨g, o, none⟩) n cap) n k f) (hn : 0 < n) : g < w.heap.size := by
  obtain ⟨g', o', x, y, z, e, c0, _⟩ := h.elem hn
  obtain ⟨rfl, rfl⟩ : g = g' ∧ o = o' := by simpa using e
  exact World.block_lt_of_cell? w _ c0
theorem LstM.kept {B g n K B2 g2 t : Nat} {F : Nat → Rat} {w w' : World} {ys : List Value} (h : LstM B g n K F w) (hb : BoxV w B2 g2 t ys) (hx : NoLimb ys) (hg : w.grownBy w' (some g2)) (hne : g ≠ g2) : LstM B g n K F w' := by
  obtain ⟨xs, h1, h2, h3, h4⟩ := h
  refine ⟨xs, h1.kept hg (by simpa using hne), h2, h3, fun j hj => ?_⟩
  obtain ⟨x, y, z, e1, e2, e3, hr⟩ := h4 j hj
  exact ⟨x, y, z, e1, e2, e3, hr.other hb hx hg⟩

section
variable {κ : Tmp → Ke} {G : Nat → Option Tmp} {d s t u c : Tmp} {ty : TypeId} {pos : String} {es : Array Edge} {k k' K : Nat} {p q : Rat} {f : Nat → Rat}
theorem e_mulRR {m : Nat} (ht : κ t = .ra k p) (hu : κ u = .ra k' q) (hd : κ d = .rc m (p * q)) (hs : Sz (p * q) m) (hk : k + k' ≤ 20000) :
    FlowStep Try.prog (Fe κ) G ⟨some d, .call ⟨.value (.func 45), #[.tmp t, .tmp u], #[24, 24]⟩, ty, pos, es, none⟩ :=
  e_c2 (fun a w => c2_45 _ _ _ _ _ _ _ _) fun w x y hx hy => by
    rw [ht] at hx
    rw [hu] at hy
    have hx : RatA w x k p := hx
    have hy : RatA w y k' q := hy
    refine (refMul_a (k := k + k') (hx.le (by omega)) (hy.le (by omega)) hk).mono ?_
    rintro e w' ⟨v, rfl, hv, hb⟩
    exact ⟨v, rfl, by rw [hd]; exact ⟨hv, hs⟩, hb⟩
theorem e_subP (ht : κ t = .ra k p) (hu : κ u = .rc k' q) (hd : κ d = .ratC (p - q)) (hk : k + k' ≤ 7000) :
    FlowStep Try.prog (Fe κ) G ⟨some d, .call ⟨.value (.func 81), #[.tmp t, .tmp u], #[24, 24]⟩, ty, pos, es, none⟩ :=
  e_c2 (fun a w => c2_81 _ _ _ _ _ _ _ _) fun w x y hx hy => by
    rw [ht] at hx
    rw [hu] at hy
    have hx : RatA w x k p := hx
    obtain ⟨hy1, hy2⟩ := (show RatC w y q ∧ Sz q k' from hy)
    refine (refSub_a (k := k + k') (hx.le (by omega)) ((hy1.a hy2).le (by omega)) hk).mono ?_
    rintro e w' ⟨v, rfl, hv, hb⟩
    exact ⟨v, rfl, by rw [hd]; exact hv, hb⟩
end
def pK11 (u : Value) (gO n gr D k j : Nat) (f r F : Nat → Rat) : Tmp → Ke := fun t => ([.lsa u n 8 f, .any, .any, .any, .lsa (.slice (some ⟨gO, 0, none⟩) n n) n 600 F, .lsa (.slice (some ⟨gr, 0, none⟩) D D) D 30 r, .con (.int .i64 k), .con (.int .i64 j), .any, .any, .any, .any, .any, .any, .any, .any, .any, .any, .any, .any, .any, .any, .any, .any, .any, .any, .any, .any, .any, .any, .any, .any, .lsa (.slice (some ⟨gO, 0, none⟩) n n) n 600 F, .con (.int .i64 j), .lsa (.slice (some ⟨gO, 0, none⟩) n n) n 600 F, .con (.int .i64 j), .elA 600 (F j), .ra 600 (F j), .lsa u n 8 f, .con (.int .i64 k), .elA 8 (f k), .ra 8 (f k), .lsa (.slice (some ⟨gr, 0, none⟩) D D) D 30 r, .con (.int .i64 j), .elA 30 (r j), .ra 30 (r j), .rc 15 (f k * r j), .ratC (F j + f k * r j), .con (.pointer (some ⟨gO, 0 + j * 3, none⟩))] : List Ke).getD t .any
def pK16 (gr D k j B : Nat) (r : Nat → Rat) : Tmp → Ke := fun t => ([.any, .any, .any, .any, .any, .lsa (.slice (some ⟨gr, 0, none⟩) D D) D 30 r, .con (.int .i64 k), .any, .any, .con (.int .i64 j), .new B, .any, .any, .any, .any, .any, .any, .any, .any, .any, .any, .any, .any, .any, .any, .any, .any, .any, .any, .any, .any, .any, .any, .any, .any, .any, .any, .any, .any, .any, .any, .any, .any, .any, .any, .any, .any, .any, .any, .any, .any, .any, .any, .any, .any, .any, .any, .any, .any, .tup (xT k r j), .lsa (.slice (some ⟨gr, 0, none⟩) D D) D 30 r, .con (.int .i64 j), .elA 30 (r j), .ra 30 (r j), .con (.int .i64 k), .con (.int .i64 ((k : Int) + 1)), .rc 3 (quo ((k : Int) + 1) 1), .tup (xT k r j), .ratC (xT k r j), .any] : List Ke).getD t .any
def pK17 (gN E j : Nat) (F : Nat → Rat) (x : Rat) : Tmp → Ke := fun t => ([.any, .any, .any, .any, .any, .any, .any, .any, .lsa (.slice (some ⟨gN, 0, none⟩) E E) E 30 F, .con (.int .i64 j), .box 9 x, .any, .any, .any, .any, .any, .any, .any, .any, .any, .any, .any, .any, .any, .any, .any, .any, .any, .any, .any, .any, .any, .any, .any, .any, .any, .any, .any, .any, .any, .any, .any, .any, .any, .any, .any, .any, .any, .any, .any, .any, .any, .any, .any, .any, .any, .any, .any, .any, .any, .any, .any, .any, .any, .any, .any, .any, .any, .any, .any, .lsa (.slice (some ⟨gN, 0, none⟩) E E) E 30 F, .con (.int .i64 j), .con (.int .i64 ((j + 1 : Nat) : Int)), .lsa (.slice (some ⟨gN, 0, none⟩) E E) E 30 F, .con (.int .i64 j), .con (.int .i64 ((j + 1 : Nat) : Int)), .elA 30 (F (j + 1)), .ra 30 (F (j + 1)), .rc 9 x, .ratC (F (j + 1) + x), .con (.pointer (some ⟨gN, 0 + (j + 1) * 3, none⟩))] : List Ke).getD t .any
def pK18 (gN E k j : Nat) (F : Nat → Rat) (x : Rat) : Tmp → Ke := fun t => ([.any, .any, .any, .any, .any, .any, .con (.int .i64 k), .any, .lsa (.slice (some ⟨gN, 0, none⟩) E E) E 30 F, .con (.int .i64 j), .box 9 x, .any, .any, .any, .any, .any, .any, .any, .any, .any, .any, .any, .any, .any, .any, .any, .any, .any, .any, .any, .any, .any, .any, .any, .any, .any, .any, .any, .any, .any, .any, .any, .any, .any, .any, .any, .any, .any, .any, .any, .any, .any, .any, .any, .any, .any, .any, .any, .any, .any, .any, .any, .any, .any, .any, .any, .any, .any, .any, .any, .any, .any, .any, .any, .any, .any, .any, .any, .any, .any, .any, .lsa (.slice (some ⟨gN, 0, none⟩) E E) E 30 F, .con (.int .i64 j), .lsa (.slice (some ⟨gN, 0, none⟩) E E) E 30 F, .con (.int .i64 j), .elA 30 (F j), .ra 30 (F j), .ra 9 x, .con (.int .i64 k), .rc 3 (quo (k : Int) 1), .rc 13 (x * quo (k : Int) 1), .ratC (F j - x * quo (k : Int) 1), .con (.pointer (some ⟨gN, 0 + j * 3, none⟩))] : List Ke).getD t .any
def pB16 (B : Nat) (x : Rat) : Tmp → Ke := fun t => if t = 10 then .bxn B 9 x else if t = 59 then .tup2 else .any
theorem pB16_store {κ : Tmp → Ke} {B : Nat} {I p : Rat} {w : World} {g : Nat} {an ad : Option Addr} {ln cn ld cd : Nat} (h59 : κ 59 = .tup p) (hB : BoxV w B g 24 [.bool false, .slice none 0 0, .slice none 0 0]) (hs : Sz I 9) (hR : RatC w (.agg #[.bool (decide (I.num < 0)), .slice an ln cn, .slice ad ld cd]) I)
    (a : Act) (e3 : a.tmps.getD 10 undef = .pointer (some ⟨g, 0, none⟩)) (t : Tmp) (h : Fe κ t w (a.tmps.getD t undef)) :
    Fe (pB16 B I) t (((w.setCell ⟨g, 0, none⟩ (.bool (decide (I.num < 0)))).setCell ⟨g, 1, none⟩ (.slice an ln cn)).setCell ⟨g, 2, none⟩ (.slice ad ld cd)) (a.tmps.getD t undef) := by
  by_cases h3 : t = 10
  · subst h3
    have := box_store (κ := κ) (t0 := 10) hB hs hR a e3 10 h
    have e : oneBox 10 B 9 I 10 = .bxn B 9 I := if_pos rfl
    have e' : pB16 B I 10 = .bxn B 9 I := if_pos rfl
    show (pB16 B I 10).holds _ _
    rw [e']
    have this : (oneBox 10 B 9 I 10).holds _ _ := this
    rw [e] at this
    exact this
  · by_cases h4 : t = 59
    · subst h4
      have e : pB16 B I 59 = .tup2 := rfl
      show (pB16 B I 59).holds _ _
      rw [e]
      have h : (κ 59).holds _ _ := h
      rw [h59] at h
      obtain ⟨x, ok, e1, _⟩ := h
      exact ⟨x, ok, e1⟩
    · have e : pB16 B I t = .any := by unfold pB16; rw [if_neg h3, if_neg h4]
      show (pB16 B I t).holds _ _
      rw [e]
      trivial

set_option maxRecDepth 100000 in
set_option maxHeartbeats 16000000 in
theorem refPowers_in (a : Option Addr) (n cap : Nat) (f : Nat → Rat) (w : World) (hn : n ≤ 33) (hl : LstA w (.slice a n cap) n 8 f) (hf : ∀ i, i < n → Sz (f i) 9) :
    Calls Try.prog 39 #[.slice a n cap] w (ListB (trimN (nst tk f 0 n) n) (nst tk f 0 n) true w) := by
  have hfin : ∀ i, sumN (fun k => f k * rowC k i) n = nst tk f 0 n i := fun i => (nst_powers f n i).symm
  have hz0 : ∀ j, j < n → (0 : Rat) = sumN (fun k => f k * rowC k j) 0 := fun j _ => rfl
  have hsO : ∀ k j i, k < n → Sz (pOut f k j i) 600 := fun k j i hk => sz_pOut hf hn hk
  have hsR : ∀ k i, k < n → Sz (rowC k i) 5 := fun k i hk => sz_rowC i (by omega)
  have hsP : ∀ k j, k < n → Sz (f k * rowC k j) 15 := fun k j hk => sz_le (sz_mul (hf k hk) (hsR k j hk)) (Nat.le_refl _)
  have hb0 := below_alloc1 w (.cells (madeCells #[.bool false, .slice none 0 0, .slice none 0 0] (n * 3)) 24)
  have hM0 := (LstM.new w w.heap.size n 600 (Nat.le_refl _)).congr hz0
  have hsz0 : (w.alloc (.cells (madeCells #[.bool false, .slice none 0 0, .slice none 0 0] (n * 3)) 24)).heap.size = w.heap.size + 1 := Array.size_push _
  have HA := Lib.hid (And.intro hl (And.intro hf (And.intro hfin (And.intro hsO (And.intro hsR hsP)))))
  have H0 := Lib.hid (And.intro hM0 (And.intro hb0 hsz0))
  clear hl hf hfin hz0 hsO hsR hsP hb0 hM0 hsz0
  go_enter Try.func39, Try.ntmps39
  go_wp2_with fail
  rw [run_make32 n w (by omega)]
  generalize w.alloc (.cells (madeCells #[.bool false, .slice none 0 0, .slice none 0 0] (n * 3)) 24) = W0 at H0 ⊢
  go_wp2_with fail
  refine (refFromInt_any 1 _ (by omega) (by omega)).mono ?_
  rintro e w4 ⟨v4, rfl, hv4, hb4⟩
  rw [quo_one] at hv4
  have hv4' := hv4
  obtain ⟨q1, q2, q3, q4, q5, q6, rfl, _⟩ := hv4
  obtain ⟨sb, hsb⟩ : ∃ s, decide ((1 : Rat).num < 0) = s := ⟨_, rfl⟩
  rw [hsb] at hv4' ⊢
  have hR0 : LstA _ _ 1 30 (rowC 0) := LstA.one (f := rowC 0) (K := 30) (by exact hv4') (by exact sz_le (sz_rowC 0 (by omega)) (by omega))
  have hb5 := below_next' hb4 (below_alloc1 w4 (.cells #[.bool sb, .slice q1 q2 q3, .slice q4 q5 q6] 24))
  have hne0 : w4.heap.size ≠ w.heap.size := by
    have h1 := hb4.size
    have h2 := H0.out.2.2
    omega
  have H1 := Lib.hid (And.intro (H0.out.1.below hb5) (And.intro hR0 (And.intro (below_next' H0.out.2.1 hb5) hne0)))
  clear hv4' hb4 hsb hR0 hb5 hne0
  go_wp2_with fail
  generalize w4.alloc (.cells #[.bool sb, .slice q1 q2 q3, .slice q4 q5 q6] 24) = W5 at H1 ⊢
  go_loopw [5, 6] (fun x5 x6 wr => ∃ k gr : Nat, k ≤ n ∧ gr ≠ w.heap.size ∧ x5 = .slice (some ⟨gr, 0, none⟩) (k + 1) (k + 1) ∧ x6 = .int .i64 k ∧ LstM w.heap.size w.heap.size n 600 (fun i => sumN (fun k => f k * rowC k i) k) wr ∧ LstA wr (.slice (some ⟨gr, 0, none⟩) (k + 1) (k + 1)) (k + 1) 30 (rowC k) ∧ Below w.heap.size w wr) (fun _ x _ => n - (intOf x).toNat)
  case atStart => exact ⟨0, w4.heap.size, Nat.zero_le _, H1.out.2.2.2, rfl, rfl, H1.out.1, H1.out.2.1, H1.out.2.2.1⟩
  case round =>
    obtain ⟨k, gr, hk, hgr, rfl, rfl, hM, hR, hbel⟩ := hrel
    by_cases hlt : k < n
    · have hki : (k : Int) < (n : Int) := by omega
      obtain ⟨D, hD⟩ : ∃ D, k + 1 = D := ⟨_, rfl⟩
      obtain ⟨E, hE⟩ : ∃ E, D + 1 = E := ⟨_, rfl⟩
      rw [hD] at hR ⊢
      have HR := Lib.hid (And.intro (hM.congr fun i _ => pOut_zero f k i) (And.intro hR (And.intro hbel (And.intro hgr (And.intro hD hE)))))
      have hDi : (k : Int) + 1 = (D : Int) := by omega
      have hEi : (D : Int) + 1 = (E : Int) := by omega
      have hDn : D ≤ n := by omega
      have hDk : k < D := by omega
      have hDl : D ≤ k + 1 := by omega
      have hE1 : E ≤ k + 2 := by omega
      have hE2 : k + 2 ≤ E := by omega
      clear hM hR hbel hgr hD hE
      go_wp2_with fail
      go_loopw [7] (fun x wr => ∃ j : Nat, j ≤ D ∧ x = .int .i64 j ∧ LstM w.heap.size w.heap.size n 600 (pOut f k j) wr ∧ LstA wr (.slice (some ⟨gr, 0, none⟩) D D) D 30 (rowC k) ∧ Below w.heap.size w wr) (fun x _ => D - (intOf x).toNat)
      case atStart => exact ⟨0, Nat.zero_le _, rfl, HR.out.1, HR.out.2.1, HR.out.2.2.1⟩
      case round =>
        obtain ⟨j, hj, rfl, hM, hR, hbel⟩ := hrel
        by_cases hltj : j < D
        · have hji : (j : Int) < (D : Int) := by omega
          have hjn : j < n := by omega
          have H2 := Lib.hid (And.intro (HA.out.1.below hbel) (And.intro hM (And.intro hR hbel)))
          clear hM hR hbel
          go_wp2_with fail
          refine region_flow_tail (Fe (pK11 (.slice a n cap) w.heap.size n gr D k j f (rowC k) (pOut f k j))) (by rfl) (Fe.mono _) 96 17 [] (by rfl) (by kernel_rfl) (by kernel_rfl) (by kernel_rfl) (by kernel_rfl) (fun t ht => by cases ht) [0, 4, 5, 6, 7] (by kernel_rfl) ?g0 (Fe.draw _) ?gs ?gf
          case g0 =>
            intro t ht
            simp only [List.mem_cons, List.not_mem_nil, or_false] at ht
            rcases ht with rfl | rfl | rfl | rfl | rfl
            · exact ⟨rfl, H2.out.1⟩
            · exact ⟨rfl, H2.out.2.1.toA (by omega)⟩
            · exact ⟨rfl, H2.out.2.2.1⟩
            · rfl
            · rfl
          case gs =>
            exact ⟨flowN_of (e_move rfl) (by decide), flowN_of (e_move rfl) (by decide), flowN_of (e_move rfl) (by decide), flowN_of (e_move rfl) (by decide), flowN_of (e_indexA rfl rfl rfl hjn) (by decide), flowN_of (e_loadEA rfl rfl) (by decide), flowN_of (e_move rfl) (by decide), flowN_of (e_move rfl) (by decide), flowN_of (e_indexA rfl rfl rfl hlt) (by decide), flowN_of (e_loadEA rfl rfl) (by decide), flowN_of (e_move rfl) (by decide), flowN_of (e_move rfl) (by decide), flowN_of (e_indexA rfl rfl rfl hltj) (by decide), flowN_of (e_loadEA rfl rfl) (by decide), flowN_of (e_mulRR rfl rfl rfl (HA.out.2.2.2.2.2 k j hlt) (by omega)) (by decide), flowN_of (e_add4 rfl rfl rfl (by omega)) (by decide), flowN_of (e_idxM rfl rfl rfl hjn) (by decide), trivial⟩
          intro a3 w6 hb6 hsz6 hdf6 hfacts hout _
          have f47 : RatC w6 (a3.tmps.getD 47 undef) (pOut f k j j + f k * rowC k j) := hfacts 15 47 (by decide) rfl
          have f48 : a3.tmps.getD 48 undef = .pointer (some ⟨w.heap.size, 0 + j * 3, none⟩) := hfacts 16 48 (by decide) rfl
          rw [pOut_at] at f47
          have hszn : a3.tmps.size = 96 := hsz6
          have hdfn : a3.defers = [] := hdf6
          change runFrom _ _ _ 1 17 a3 w6
          simp only [runFrom]
          refine e_storeM (t := 48) (u := 47) (F' := pOut f k (j + 1)) rfl f48 (H2.out.2.1.below hb6) hjn f47 (HA.out.2.2.2.1 k (j + 1) j hlt) (fun i hi => pOut_other hi) fun v0 v1 v2 hU => ?_
          obtain ⟨xs, l1, l2, l3, _⟩ := H2.out.2.1.below hb6
          have hgr := grown_setL w6 w.heap.size (j * 3) v0 v1 v2
          have hR3 := (H2.out.2.2.1.below hb6).kept l1 l3 hgr (fun _ b hb => by cases hb; exact HR.out.2.2.2.1)
          have hbU := below_setL (below_next' H2.out.2.2.2 hb6) (o := j * 3) (Nat.le_refl _) v0 v1 v2
          have HN := Lib.hid (And.intro hU (And.intro hR3 hbU))
          generalize (((w6.setCell ⟨w.heap.size, j * 3, none⟩ v0).setCell ⟨w.heap.size, j * 3 + 1, none⟩ v1).setCell ⟨w.heap.size, j * 3 + 2, none⟩ v2) = w7 at HN ⊢
          have e0 : a3.tmps.getD 0 undef = .slice a n cap := hout 0 (free_of (by kernel_rfl))
          have e1 : a3.tmps.getD 1 undef = undef := hout 1 (free_of (by kernel_rfl))
          have e2 : a3.tmps.getD 2 undef = .slice none 0 0 := hout 2 (free_of (by kernel_rfl))
          have e3 : a3.tmps.getD 3 undef = .bool false := hout 3 (free_of (by kernel_rfl))
          have e4 : a3.tmps.getD 4 undef = .slice (some ⟨w.heap.size, 0, none⟩) n n := hout 4 (free_of (by kernel_rfl))
          have e5 : a3.tmps.getD 5 undef = .slice (some ⟨gr, 0, none⟩) D D := hout 5 (free_of (by kernel_rfl))
          have e6 : a3.tmps.getD 6 undef = .int .i64 k := hout 6 (free_of (by kernel_rfl))
          have e7 : a3.tmps.getD 7 undef = .int .i64 j := hout 7 (free_of (by kernel_rfl))
          have e12 : a3.tmps.getD 12 undef = .slice a n cap := hout 12 (free_of (by kernel_rfl))
          have e13 : a3.tmps.getD 13 undef = .int .i64 n := hout 13 (free_of (by kernel_rfl))
          have e14 : a3.tmps.getD 14 undef = .bool (decide (33 < (n : Int))) := hout 14 (free_of (by kernel_rfl))
          have e15 : a3.tmps.getD 15 undef = .slice a n cap := hout 15 (free_of (by kernel_rfl))
          have e16 : a3.tmps.getD 16 undef = .int .i64 n := hout 16 (free_of (by kernel_rfl))
          have e17 : a3.tmps.getD 17 undef = .slice (some ⟨w.heap.size, 0, none⟩) n n := hout 17 (free_of (by kernel_rfl))
          have e18 : a3.tmps.getD 18 undef = .agg #[.bool sb, .slice q1 q2 q3, .slice q4 q5 q6] := hout 18 (free_of (by kernel_rfl))
          have e19 : a3.tmps.getD 19 undef = .slice (some ⟨w4.heap.size, 0, none⟩) 1 1 := hout 19 (free_of (by kernel_rfl))
          have e20 : a3.tmps.getD 20 undef = .int .i64 k := hout 20 (free_of (by kernel_rfl))
          have e21 : a3.tmps.getD 21 undef = .slice a n cap := hout 21 (free_of (by kernel_rfl))
          have e22 : a3.tmps.getD 22 undef = .int .i64 n := hout 22 (free_of (by kernel_rfl))
          have e23 : a3.tmps.getD 23 undef = .bool true := hout 23 (free_of (by kernel_rfl))
          have e94 : a3.tmps.getD 94 undef = undef := hout 94 (free_of (by kernel_rfl))
          have e95 : a3.tmps.getD 95 undef = undef := hout 95 (free_of (by kernel_rfl))
          have e8 : a3.tmps.getD 8 undef = u8 := hout 8 (free_of (by kernel_rfl))
          have e9 : a3.tmps.getD 9 undef = u9 := hout 9 (free_of (by kernel_rfl))
          have e10 : a3.tmps.getD 10 undef = u10 := hout 10 (free_of (by kernel_rfl))
          have e11 : a3.tmps.getD 11 undef = u11 := hout 11 (free_of (by kernel_rfl))
          have e24 : a3.tmps.getD 24 undef = u24 := hout 24 (free_of (by kernel_rfl))
          have e25 : a3.tmps.getD 25 undef = u25 := hout 25 (free_of (by kernel_rfl))
          have e49 : a3.tmps.getD 49 undef = u49 := hout 49 (free_of (by kernel_rfl))
          have e50 : a3.tmps.getD 50 undef = u50 := hout 50 (free_of (by kernel_rfl))
          have e51 : a3.tmps.getD 51 undef = u51 := hout 51 (free_of (by kernel_rfl))
          have e52 : a3.tmps.getD 52 undef = u52 := hout 52 (free_of (by kernel_rfl))
          have e53 : a3.tmps.getD 53 undef = u53 := hout 53 (free_of (by kernel_rfl))
          have e54 : a3.tmps.getD 54 undef = u54 := hout 54 (free_of (by kernel_rfl))
          have e55 : a3.tmps.getD 55 undef = u55 := hout 55 (free_of (by kernel_rfl))
          have e56 : a3.tmps.getD 56 undef = u56 := hout 56 (free_of (by kernel_rfl))
          have e57 : a3.tmps.getD 57 undef = u57 := hout 57 (free_of (by kernel_rfl))
          have e58 : a3.tmps.getD 58 undef = u58 := hout 58 (free_of (by kernel_rfl))
          have e59 : a3.tmps.getD 59 undef = u59 := hout 59 (free_of (by kernel_rfl))
          have e60 : a3.tmps.getD 60 undef = u60 := hout 60 (free_of (by kernel_rfl))
          have e61 : a3.tmps.getD 61 undef = u61 := hout 61 (free_of (by kernel_rfl))
          have e62 : a3.tmps.getD 62 undef = u62 := hout 62 (free_of (by kernel_rfl))
          have e63 : a3.tmps.getD 63 undef = u63 := hout 63 (free_of (by kernel_rfl))
          have e64 : a3.tmps.getD 64 undef = u64 := hout 64 (free_of (by kernel_rfl))
          have e65 : a3.tmps.getD 65 undef = u65 := hout 65 (free_of (by kernel_rfl))
          have e66 : a3.tmps.getD 66 undef = u66 := hout 66 (free_of (by kernel_rfl))
          have e67 : a3.tmps.getD 67 undef = u67 := hout 67 (free_of (by kernel_rfl))
          have e68 : a3.tmps.getD 68 undef = u68 := hout 68 (free_of (by kernel_rfl))
          have e69 : a3.tmps.getD 69 undef = u69 := hout 69 (free_of (by kernel_rfl))
          have e70 : a3.tmps.getD 70 undef = u70 := hout 70 (free_of (by kernel_rfl))
          have e71 : a3.tmps.getD 71 undef = u71 := hout 71 (free_of (by kernel_rfl))
          have e72 : a3.tmps.getD 72 undef = u72 := hout 72 (free_of (by kernel_rfl))
          have e73 : a3.tmps.getD 73 undef = u73 := hout 73 (free_of (by kernel_rfl))
          have e74 : a3.tmps.getD 74 undef = u74 := hout 74 (free_of (by kernel_rfl))
          have e75 : a3.tmps.getD 75 undef = u75 := hout 75 (free_of (by kernel_rfl))
          have e76 : a3.tmps.getD 76 undef = u76 := hout 76 (free_of (by kernel_rfl))
          have e77 : a3.tmps.getD 77 undef = u77 := hout 77 (free_of (by kernel_rfl))
          have e78 : a3.tmps.getD 78 undef = u78 := hout 78 (free_of (by kernel_rfl))
          have e79 : a3.tmps.getD 79 undef = u79 := hout 79 (free_of (by kernel_rfl))
          have e80 : a3.tmps.getD 80 undef = u80 := hout 80 (free_of (by kernel_rfl))
          have e81 : a3.tmps.getD 81 undef = u81 := hout 81 (free_of (by kernel_rfl))
          have e82 : a3.tmps.getD 82 undef = u82 := hout 82 (free_of (by kernel_rfl))
          have e83 : a3.tmps.getD 83 undef = u83 := hout 83 (free_of (by kernel_rfl))
          have e84 : a3.tmps.getD 84 undef = u84 := hout 84 (free_of (by kernel_rfl))
          have e85 : a3.tmps.getD 85 undef = u85 := hout 85 (free_of (by kernel_rfl))
          have e86 : a3.tmps.getD 86 undef = u86 := hout 86 (free_of (by kernel_rfl))
          have e87 : a3.tmps.getD 87 undef = u87 := hout 87 (free_of (by kernel_rfl))
          have e88 : a3.tmps.getD 88 undef = u88 := hout 88 (free_of (by kernel_rfl))
          have e89 : a3.tmps.getD 89 undef = u89 := hout 89 (free_of (by kernel_rfl))
          have e90 : a3.tmps.getD 90 undef = u90 := hout 90 (free_of (by kernel_rfl))
          have e91 : a3.tmps.getD 91 undef = u91 := hout 91 (free_of (by kernel_rfl))
          have e92 : a3.tmps.getD 92 undef = u92 := hout 92 (free_of (by kernel_rfl))
          have e93 : a3.tmps.getD 93 undef = u93 := hout 93 (free_of (by kernel_rfl))
          obtain ⟨va, hu⟩ : ∃ u : Nat → Value, ∀ t, a3.tmps.getD t undef = u t := ⟨_, fun _ => rfl⟩
          have ha := act_eq a3 96 hszn hdfn
          simp only [hu] at ha e0 e1 e2 e3 e4 e5 e6 e7 e12 e13 e14 e15 e16 e17 e18 e19 e20 e21 e22 e23 e94 e95 e8 e9 e10 e11 e24 e25 e49 e50 e51 e52 e53 e54 e55 e56 e57 e58 e59 e60 e61 e62 e63 e64 e65 e66 e67 e68 e69 e70 e71 e72 e73 e74 e75 e76 e77 e78 e79 e80 e81 e82 e83 e84 e85 e86 e87 e88 e89 e90 e91 e92 e93
          have ha' : a3 = ⟨#[va 0, va 1, va 2, va 3, va 4, va 5, va 6, va 7, va 8, va 9, va 10, va 11, va 12, va 13, va 14, va 15, va 16, va 17, va 18, va 19, va 20, va 21, va 22, va 23, va 24, va 25, va 26, va 27, va 28, va 29, va 30, va 31, va 32, va 33, va 34, va 35, va 36, va 37, va 38, va 39, va 40, va 41, va 42, va 43, va 44, va 45, va 46, va 47, va 48, va 49, va 50, va 51, va 52, va 53, va 54, va 55, va 56, va 57, va 58, va 59, va 60, va 61, va 62, va 63, va 64, va 65, va 66, va 67, va 68, va 69, va 70, va 71, va 72, va 73, va 74, va 75, va 76, va 77, va 78, va 79, va 80, va 81, va 82, va 83, va 84, va 85, va 86, va 87, va 88, va 89, va 90, va 91, va 92, va 93, va 94, va 95], []⟩ := ha
          rw [e0, e1, e2, e3, e4, e5, e6, e7, e12, e13, e14, e15, e16, e17, e18, e19, e20, e21, e22, e23, e94, e95, e8, e9, e10, e11, e24, e25, e49, e50, e51, e52, e53, e54, e55, e56, e57, e58, e59, e60, e61, e62, e63, e64, e65, e66, e67, e68, e69, e70, e71, e72, e73, e74, e75, e76, e77, e78, e79, e80, e81, e82, e83, e84, e85, e86, e87, e88, e89, e90, e91, e92, e93] at ha'
          clear ha hu e0 e1 e2 e3 e4 e5 e6 e7 e12 e13 e14 e15 e16 e17 e18 e19 e20 e21 e22 e23 e94 e95 e8 e9 e10 e11 e24 e25 e49 e50 e51 e52 e53 e54 e55 e56 e57 e58 e59 e60 e61 e62 e63 e64 e65 e66 e67 e68 e69 e70 e71 e72 e73 e74 e75 e76 e77 e78 e79 e80 e81 e82 e83 e84 e85 e86 e87 e88 e89 e90 e91 e92 e93 hszn hdfn hfacts hout hsz6 hdf6 f47 f48 hb6 hU hR3 hbU hgr l1 l2 l3
          subst ha'
          go_wp2
          go_roundw
          case rel => exact ⟨j + 1, by omega, by go_num, HN.out⟩
          case measure => simp [intOf] <;> omega
        · obtain rfl : D = j := by omega
          have hgr1 := hR.blk (by omega)
          have hO1 : w.heap.size < wr.heap.size := by obtain ⟨xs, l1, _⟩ := hM; exact l1.block.2
          have hb7 := below_alloc1 wr (.cells (madeCells #[.bool false, .slice none 0 0, .slice none 0 0] (E * 3)) 24)
          have hN0 := (LstM.new wr w.heap.size E 30 hbel.size).congr fun i _ => (nxT_zero k (rowC k) i).symm
          obtain ⟨gN, hgN⟩ : ∃ g, wr.heap.size = g := ⟨_, rfl⟩
          rw [hgN] at hN0 hgr1 hO1
          have H3 := Lib.hid (And.intro hN0 (And.intro (hM.below hb7) (And.intro (hR.below hb7) (And.intro (below_next' hbel hb7) (And.intro hgr1 hO1)))))
          clear hM hR hbel hltj hgr1 hO1 hb7 hN0
          go_wp2_with fail
          rw [run_make32 E wr (by omega), hgN]
          generalize wr.alloc (.cells (madeCells #[.bool false, .slice none 0 0, .slice none 0 0] (E * 3)) 24) = W7 at H3 ⊢
          clear hgN
          go_wp2_with fail
          go_loopw [9] (fun x wr => ∃ j : Nat, j ≤ D ∧ x = .int .i64 j ∧ LstM w.heap.size gN E 30 (nxT k (rowC k) j) wr ∧ LstM w.heap.size w.heap.size n 600 (pOut f k D) wr ∧ LstA wr (.slice (some ⟨gr, 0, none⟩) D D) D 30 (rowC k) ∧ Below w.heap.size w wr) (fun x _ => D - (intOf x).toNat)
          case atStart => exact ⟨0, Nat.zero_le _, rfl, H3.out.1, H3.out.2.1, H3.out.2.2.1, H3.out.2.2.2.1⟩
          case round =>
            obtain ⟨wB, hwB⟩ : ∃ x, x = wr := ⟨_, rfl⟩
            subst hwB
            obtain ⟨j, hj, rfl, hX, hM, hR, hbel⟩ := hrel
            by_cases hltj : j < D
            · have hji : (j : Int) < (D : Int) := by omega
              have hNB : gN < wB.heap.size := by obtain ⟨xs, l1, _⟩ := hX; exact l1.block.2
              have hsx : Sz (xT k (rowC k) j) 9 := sz_xT (fun i => HA.out.2.2.2.2.1 k i hlt) (by omega)
              have H4 := Lib.hid (And.intro hX (And.intro hM (And.intro hR (And.intro hbel (And.intro hNB hsx)))))
              clear hX hM hR hbel hNB hsx
              go_wp2_with fail
              refine region_flow_store (Fe (pK16 gr D k j wB.heap.size (rowC k))) (Fe (pB16 wB.heap.size (xT k (rowC k) j))) (by rfl) (Fe.mono _) (Fe.mono _) 96 12 [10, 13] (by rfl) (by kernel_rfl) (by kernel_rfl) (by kernel_rfl) [5, 6, 9] (by kernel_rfl) ?g016 (Fe.draw _) ?gs16 ?g216 ?gt16 ?gf16
              case g016 =>
                intro t ht
                simp only [List.mem_cons, List.not_mem_nil, or_false] at ht
                rcases ht with rfl | rfl | rfl
                · exact ⟨rfl, H4.out.2.2.1⟩
                · rfl
                · rfl
              case gs16 =>
                refine ⟨flowB_of (e_move rfl), flowB_of (e_move rfl), flowB_of (e_indexA rfl rfl rfl hltj), flowB_of (e_loadEA rfl rfl), flowB_of (e_move rfl), flowB_of (e_add1 rfl rfl (by omega) (by omega)), flowB_of (e_fromI (n := (k : Int) + 1) rfl rfl (by omega) (by omega) (sz_int (by omega) (by omega))), flowB_of (e_div2 rfl rfl rfl (by omega)), flowB_of (e_move rfl), flowB_of (e_ext0 rfl rfl), flowB_of (e_ext1 rfl rfl), e_new rfl, ?_⟩
                intro o ho
                simp only [List.mem_cons, List.not_mem_nil, or_false] at ho
                subst ho
                exact flowB_of (e_assign rfl)
              case g216 =>
                intro i hi o ho
                simp only [List.mem_cons, List.not_mem_nil, or_false] at hi
                rcases hi with rfl | rfl
                · obtain rfl := Option.some.inj ho
                  exact e_ext1b rfl rfl
                · obtain rfl := Option.some.inj ho
                  exact e_assign rfl
              case gt16 =>
                intro a3 w3 hb3 hsz3 hdf3 hfacts hout
                obtain ⟨g10, e3, hB3⟩ : ∃ g, a3.tmps.getD 10 undef = .pointer (some ⟨g, 0, none⟩) ∧ BoxV w3 _ g 24 [.bool false, .slice none 0 0, .slice none 0 0] := hfacts 11 10 (by decide) rfl
                have f68 : RatC w3 (a3.tmps.getD 68 undef) (xT k (rowC k) j) := hfacts 9 68 (by decide) rfl
                refine e_store (t := 10) (u := 68) rfl e3 hB3 f68 fun an' ln' cn' ad' ld' cd' hR => ?_
                exact ⟨rfl, below_set3 hb3 hB3.block.1 _ _ _, pB16_store rfl hB3 H4.out.2.2.2.2.2 hR a3 e3⟩
              intro a3 w3 hb3 hsz3 hdf3 hfacts hout
              obtain ⟨hbx10, g10, f10, hg10⟩ : (Ke.bxn wB.heap.size 9 (xT k (rowC k) j)).holds w3 (a3.tmps.getD 10 undef) := hfacts 11 10 rfl
              rw [f10] at hbx10
              have hne10 : gN ≠ g10 := by have := H4.out.2.2.2.2.1; omega
              have H5 := Lib.hid (And.intro (H4.out.1.below hb3) (And.intro (H4.out.2.1.below hb3) (And.intro (H4.out.2.2.1.below hb3) (And.intro (below_next' H4.out.2.2.2.1 hb3) (And.intro hbx10 hne10)))))
              have hszn : a3.tmps.size = 96 := hsz3
              have hdfn : a3.defers = [] := hdf3
              have e0 : a3.tmps.getD 0 undef = .slice a n cap := hout 0 (free_of (by kernel_rfl))
              have e1 : a3.tmps.getD 1 undef = undef := hout 1 (free_of (by kernel_rfl))
              have e2 : a3.tmps.getD 2 undef = .slice none 0 0 := hout 2 (free_of (by kernel_rfl))
              have e3 : a3.tmps.getD 3 undef = .bool false := hout 3 (free_of (by kernel_rfl))
              have e4 : a3.tmps.getD 4 undef = .slice (some ⟨w.heap.size, 0, none⟩) n n := hout 4 (free_of (by kernel_rfl))
              have e5 : a3.tmps.getD 5 undef = .slice (some ⟨gr, 0, none⟩) D D := hout 5 (free_of (by kernel_rfl))
              have e6 : a3.tmps.getD 6 undef = .int .i64 k := hout 6 (free_of (by kernel_rfl))
              have e7 : a3.tmps.getD 7 undef = .int .i64 D := hout 7 (free_of (by kernel_rfl))
              have e12 : a3.tmps.getD 12 undef = .slice a n cap := hout 12 (free_of (by kernel_rfl))
              have e13 : a3.tmps.getD 13 undef = .int .i64 n := hout 13 (free_of (by kernel_rfl))
              have e14 : a3.tmps.getD 14 undef = .bool (decide (33 < (n : Int))) := hout 14 (free_of (by kernel_rfl))
              have e15 : a3.tmps.getD 15 undef = .slice a n cap := hout 15 (free_of (by kernel_rfl))
              have e16 : a3.tmps.getD 16 undef = .int .i64 n := hout 16 (free_of (by kernel_rfl))
              have e17 : a3.tmps.getD 17 undef = .slice (some ⟨w.heap.size, 0, none⟩) n n := hout 17 (free_of (by kernel_rfl))
              have e18 : a3.tmps.getD 18 undef = .agg #[.bool sb, .slice q1 q2 q3, .slice q4 q5 q6] := hout 18 (free_of (by kernel_rfl))
              have e19 : a3.tmps.getD 19 undef = .slice (some ⟨w4.heap.size, 0, none⟩) 1 1 := hout 19 (free_of (by kernel_rfl))
              have e20 : a3.tmps.getD 20 undef = .int .i64 k := hout 20 (free_of (by kernel_rfl))
              have e21 : a3.tmps.getD 21 undef = .slice a n cap := hout 21 (free_of (by kernel_rfl))
              have e22 : a3.tmps.getD 22 undef = .int .i64 n := hout 22 (free_of (by kernel_rfl))
              have e23 : a3.tmps.getD 23 undef = .bool true := hout 23 (free_of (by kernel_rfl))
              have e94 : a3.tmps.getD 94 undef = undef := hout 94 (free_of (by kernel_rfl))
              have e95 : a3.tmps.getD 95 undef = undef := hout 95 (free_of (by kernel_rfl))
              have e8 : a3.tmps.getD 8 undef = .slice (some ⟨gN, 0, none⟩) E E := hout 8 (free_of (by kernel_rfl))
              have e9 : a3.tmps.getD 9 undef = .int .i64 j := hout 9 (free_of (by kernel_rfl))
              have e24 : a3.tmps.getD 24 undef = u24 := hout 24 (free_of (by kernel_rfl))
              have e25 : a3.tmps.getD 25 undef = u25 := hout 25 (free_of (by kernel_rfl))
              have e30 : a3.tmps.getD 30 undef = u30 := hout 30 (free_of (by kernel_rfl))
              have e31 : a3.tmps.getD 31 undef = u31 := hout 31 (free_of (by kernel_rfl))
              have e32 : a3.tmps.getD 32 undef = u32 := hout 32 (free_of (by kernel_rfl))
              have e33 : a3.tmps.getD 33 undef = u33 := hout 33 (free_of (by kernel_rfl))
              have e34 : a3.tmps.getD 34 undef = u34 := hout 34 (free_of (by kernel_rfl))
              have e35 : a3.tmps.getD 35 undef = u35 := hout 35 (free_of (by kernel_rfl))
              have e36 : a3.tmps.getD 36 undef = u36 := hout 36 (free_of (by kernel_rfl))
              have e37 : a3.tmps.getD 37 undef = u37 := hout 37 (free_of (by kernel_rfl))
              have e38 : a3.tmps.getD 38 undef = u38 := hout 38 (free_of (by kernel_rfl))
              have e39 : a3.tmps.getD 39 undef = u39 := hout 39 (free_of (by kernel_rfl))
              have e40 : a3.tmps.getD 40 undef = u40 := hout 40 (free_of (by kernel_rfl))
              have e41 : a3.tmps.getD 41 undef = u41 := hout 41 (free_of (by kernel_rfl))
              have e42 : a3.tmps.getD 42 undef = u42 := hout 42 (free_of (by kernel_rfl))
              have e43 : a3.tmps.getD 43 undef = u43 := hout 43 (free_of (by kernel_rfl))
              have e44 : a3.tmps.getD 44 undef = u44 := hout 44 (free_of (by kernel_rfl))
              have e45 : a3.tmps.getD 45 undef = u45 := hout 45 (free_of (by kernel_rfl))
              have e46 : a3.tmps.getD 46 undef = u46 := hout 46 (free_of (by kernel_rfl))
              have e47 : a3.tmps.getD 47 undef = u47 := hout 47 (free_of (by kernel_rfl))
              have e48 : a3.tmps.getD 48 undef = u48 := hout 48 (free_of (by kernel_rfl))
              have e93 : a3.tmps.getD 93 undef = u93 := hout 93 (free_of (by kernel_rfl))
              have e26 : a3.tmps.getD 26 undef = .int .i64 D := hout 26 (free_of (by kernel_rfl))
              have e27 : a3.tmps.getD 27 undef = .slice (some ⟨gr, 0, none⟩) D D := hout 27 (free_of (by kernel_rfl))
              have e28 : a3.tmps.getD 28 undef = .int .i64 D := hout 28 (free_of (by kernel_rfl))
              have e29 : a3.tmps.getD 29 undef = .bool false := hout 29 (free_of (by kernel_rfl))
              have e49 : a3.tmps.getD 49 undef = .slice (some ⟨gr, 0, none⟩) D D := hout 49 (free_of (by kernel_rfl))
              have e50 : a3.tmps.getD 50 undef = .int .i64 D := hout 50 (free_of (by kernel_rfl))
              have e51 : a3.tmps.getD 51 undef = .int .i64 E := hout 51 (free_of (by kernel_rfl))
              have e52 : a3.tmps.getD 52 undef = .slice (some ⟨gN, 0, none⟩) E E := hout 52 (free_of (by kernel_rfl))
              obtain ⟨vb, hu⟩ : ∃ u : Nat → Value, ∀ t, a3.tmps.getD t undef = u t := ⟨_, fun _ => rfl⟩
              have ha := act_eq a3 96 hszn hdfn
              simp only [hu] at ha f10 e0 e1 e2 e3 e4 e5 e6 e7 e12 e13 e14 e15 e16 e17 e18 e19 e20 e21 e22 e23 e94 e95 e8 e9 e24 e25 e30 e31 e32 e33 e34 e35 e36 e37 e38 e39 e40 e41 e42 e43 e44 e45 e46 e47 e48 e93 e26 e27 e28 e29 e49 e50 e51 e52
              have ha' : a3 = ⟨#[vb 0, vb 1, vb 2, vb 3, vb 4, vb 5, vb 6, vb 7, vb 8, vb 9, vb 10, vb 11, vb 12, vb 13, vb 14, vb 15, vb 16, vb 17, vb 18, vb 19, vb 20, vb 21, vb 22, vb 23, vb 24, vb 25, vb 26, vb 27, vb 28, vb 29, vb 30, vb 31, vb 32, vb 33, vb 34, vb 35, vb 36, vb 37, vb 38, vb 39, vb 40, vb 41, vb 42, vb 43, vb 44, vb 45, vb 46, vb 47, vb 48, vb 49, vb 50, vb 51, vb 52, vb 53, vb 54, vb 55, vb 56, vb 57, vb 58, vb 59, vb 60, vb 61, vb 62, vb 63, vb 64, vb 65, vb 66, vb 67, vb 68, vb 69, vb 70, vb 71, vb 72, vb 73, vb 74, vb 75, vb 76, vb 77, vb 78, vb 79, vb 80, vb 81, vb 82, vb 83, vb 84, vb 85, vb 86, vb 87, vb 88, vb 89, vb 90, vb 91, vb 92, vb 93, vb 94, vb 95], []⟩ := ha
              rw [f10, e0, e1, e2, e3, e4, e5, e6, e7, e12, e13, e14, e15, e16, e17, e18, e19, e20, e21, e22, e23, e94, e95, e8, e9, e24, e25, e30, e31, e32, e33, e34, e35, e36, e37, e38, e39, e40, e41, e42, e43, e44, e45, e46, e47, e48, e93, e26, e27, e28, e29, e49, e50, e51, e52] at ha'
              clear ha hu f10 e0 e1 e2 e3 e4 e5 e6 e7 e12 e13 e14 e15 e16 e17 e18 e19 e20 e21 e22 e23 e94 e95 e8 e9 e24 e25 e30 e31 e32 e33 e34 e35 e36 e37 e38 e39 e40 e41 e42 e43 e44 e45 e46 e47 e48 e93 e26 e27 e28 e29 e49 e50 e51 e52 hszn hdfn hfacts hout hsz3 hdf3 hb3 hbx10 hg10 hne10
              subst ha'
              go_wp2_with fail
              refine region_flow_tail (Fe (pK17 gN E j (nxT k (rowC k) j) (xT k (rowC k) j))) (by rfl) (Fe.mono _) 96 11 [] (by rfl) (by kernel_rfl) (by kernel_rfl) (by kernel_rfl) (by kernel_rfl) (fun t ht => by cases ht) [8, 9, 10] (by kernel_rfl) ?g017 (Fe.draw _) ?gs17 ?gf17
              case g017 =>
                intro t ht
                simp only [List.mem_cons, List.not_mem_nil, or_false] at ht
                rcases ht with rfl | rfl | rfl
                · exact ⟨rfl, H5.out.1.toA (by omega)⟩
                · rfl
                · exact H5.out.2.2.2.2.1
              case gs17 =>
                exact ⟨flowN_of (e_move rfl) (by decide), flowN_of (e_move rfl) (by decide), flowN_of (e_add1 rfl rfl (by omega) (by omega)) (by decide), flowN_of (e_move rfl) (by decide), flowN_of (e_move rfl) (by decide), flowN_of (e_add1 rfl rfl (by omega) (by omega)) (by decide), flowN_of (e_indexA rfl rfl rfl (by omega)) (by decide), flowN_of (e_loadEA rfl rfl) (by decide), flowN_of (e_loadR rfl rfl) (by decide), flowN_of (e_add4 rfl rfl rfl (by omega)) (by decide), flowN_of (e_idxM rfl rfl rfl (by omega)) (by decide), trivial⟩
              intro a3 w5 hb5 hsz5 hdf5 hfacts hout _
              have f79 : RatC w5 (a3.tmps.getD 79 undef) (nxT k (rowC k) j (j + 1) + xT k (rowC k) j) := hfacts 9 79 (by decide) rfl
              have f80 : a3.tmps.getD 80 undef = .pointer (some ⟨gN, 0 + (j + 1) * 3, none⟩) := hfacts 10 80 (by decide) rfl
              rw [mdT_at] at f79
              have hszn : a3.tmps.size = 96 := hsz5
              have hdfn : a3.defers = [] := hdf5
              change runFrom _ _ _ 1 11 a3 w5
              simp only [runFrom]
              refine e_storeM (t := 80) (u := 79) (F' := mdT k (rowC k) j) rfl f80 (H5.out.1.below hb5) (by omega) f79 (sz_mdT (fun i => HA.out.2.2.2.2.1 k i hlt) (by omega)) (fun i hi => mdT_other hi) fun v0 v1 v2 hU => ?_
              obtain ⟨xs, l1, l2, l3, _⟩ := H5.out.1.below hb5
              have hgr := grown_setL w5 gN ((j + 1) * 3) v0 v1 v2
              have hX10 := box_kept ((Ke.box _ _).below hb5 H5.out.2.2.2.2.1) l1 l3 hgr (by simp; exact fun e => H5.out.2.2.2.2.2 e.symm)
              have hM8 := (H5.out.2.1.below hb5).kept l1 l3 hgr (Nat.ne_of_lt H3.out.2.2.2.2.2)
              have hR8 := (H5.out.2.2.1.below hb5).kept l1 l3 hgr (fun _ b hb => by cases hb; exact Nat.ne_of_lt H3.out.2.2.2.2.1)
              have hbU := below_setL (below_next' H5.out.2.2.2.1 hb5) (g := gN) (o := (j + 1) * 3) (Nat.le_of_lt H3.out.2.2.2.2.2) v0 v1 v2
              have H6 := Lib.hid (And.intro hU (And.intro hM8 (And.intro hR8 (And.intro hbU hX10))))
              generalize (((w5.setCell ⟨gN, (j + 1) * 3, none⟩ v0).setCell ⟨gN, (j + 1) * 3 + 1, none⟩ v1).setCell ⟨gN, (j + 1) * 3 + 2, none⟩ v2) = w6 at H6 ⊢
              have e0 : a3.tmps.getD 0 undef = .slice a n cap := hout 0 (free_of (by kernel_rfl))
              have e1 : a3.tmps.getD 1 undef = undef := hout 1 (free_of (by kernel_rfl))
              have e2 : a3.tmps.getD 2 undef = .slice none 0 0 := hout 2 (free_of (by kernel_rfl))
              have e3 : a3.tmps.getD 3 undef = .bool false := hout 3 (free_of (by kernel_rfl))
              have e4 : a3.tmps.getD 4 undef = .slice (some ⟨w.heap.size, 0, none⟩) n n := hout 4 (free_of (by kernel_rfl))
              have e5 : a3.tmps.getD 5 undef = .slice (some ⟨gr, 0, none⟩) D D := hout 5 (free_of (by kernel_rfl))
              have e6 : a3.tmps.getD 6 undef = .int .i64 k := hout 6 (free_of (by kernel_rfl))
              have e7 : a3.tmps.getD 7 undef = .int .i64 D := hout 7 (free_of (by kernel_rfl))
              have e12 : a3.tmps.getD 12 undef = .slice a n cap := hout 12 (free_of (by kernel_rfl))
              have e13 : a3.tmps.getD 13 undef = .int .i64 n := hout 13 (free_of (by kernel_rfl))
              have e14 : a3.tmps.getD 14 undef = .bool (decide (33 < (n : Int))) := hout 14 (free_of (by kernel_rfl))
              have e15 : a3.tmps.getD 15 undef = .slice a n cap := hout 15 (free_of (by kernel_rfl))
              have e16 : a3.tmps.getD 16 undef = .int .i64 n := hout 16 (free_of (by kernel_rfl))
              have e17 : a3.tmps.getD 17 undef = .slice (some ⟨w.heap.size, 0, none⟩) n n := hout 17 (free_of (by kernel_rfl))
              have e18 : a3.tmps.getD 18 undef = .agg #[.bool sb, .slice q1 q2 q3, .slice q4 q5 q6] := hout 18 (free_of (by kernel_rfl))
              have e19 : a3.tmps.getD 19 undef = .slice (some ⟨w4.heap.size, 0, none⟩) 1 1 := hout 19 (free_of (by kernel_rfl))
              have e20 : a3.tmps.getD 20 undef = .int .i64 k := hout 20 (free_of (by kernel_rfl))
              have e21 : a3.tmps.getD 21 undef = .slice a n cap := hout 21 (free_of (by kernel_rfl))
              have e22 : a3.tmps.getD 22 undef = .int .i64 n := hout 22 (free_of (by kernel_rfl))
              have e23 : a3.tmps.getD 23 undef = .bool true := hout 23 (free_of (by kernel_rfl))
              have e94 : a3.tmps.getD 94 undef = undef := hout 94 (free_of (by kernel_rfl))
              have e95 : a3.tmps.getD 95 undef = undef := hout 95 (free_of (by kernel_rfl))
              have e8 : a3.tmps.getD 8 undef = .slice (some ⟨gN, 0, none⟩) E E := hout 8 (free_of (by kernel_rfl))
              have e9 : a3.tmps.getD 9 undef = .int .i64 j := hout 9 (free_of (by kernel_rfl))
              have e24 : a3.tmps.getD 24 undef = u24 := hout 24 (free_of (by kernel_rfl))
              have e25 : a3.tmps.getD 25 undef = u25 := hout 25 (free_of (by kernel_rfl))
              have e30 : a3.tmps.getD 30 undef = u30 := hout 30 (free_of (by kernel_rfl))
              have e31 : a3.tmps.getD 31 undef = u31 := hout 31 (free_of (by kernel_rfl))
              have e32 : a3.tmps.getD 32 undef = u32 := hout 32 (free_of (by kernel_rfl))
              have e33 : a3.tmps.getD 33 undef = u33 := hout 33 (free_of (by kernel_rfl))
              have e34 : a3.tmps.getD 34 undef = u34 := hout 34 (free_of (by kernel_rfl))
              have e35 : a3.tmps.getD 35 undef = u35 := hout 35 (free_of (by kernel_rfl))
              have e36 : a3.tmps.getD 36 undef = u36 := hout 36 (free_of (by kernel_rfl))
              have e37 : a3.tmps.getD 37 undef = u37 := hout 37 (free_of (by kernel_rfl))
              have e38 : a3.tmps.getD 38 undef = u38 := hout 38 (free_of (by kernel_rfl))
              have e39 : a3.tmps.getD 39 undef = u39 := hout 39 (free_of (by kernel_rfl))
              have e40 : a3.tmps.getD 40 undef = u40 := hout 40 (free_of (by kernel_rfl))
              have e41 : a3.tmps.getD 41 undef = u41 := hout 41 (free_of (by kernel_rfl))
              have e42 : a3.tmps.getD 42 undef = u42 := hout 42 (free_of (by kernel_rfl))
              have e43 : a3.tmps.getD 43 undef = u43 := hout 43 (free_of (by kernel_rfl))
              have e44 : a3.tmps.getD 44 undef = u44 := hout 44 (free_of (by kernel_rfl))
              have e45 : a3.tmps.getD 45 undef = u45 := hout 45 (free_of (by kernel_rfl))
              have e46 : a3.tmps.getD 46 undef = u46 := hout 46 (free_of (by kernel_rfl))
              have e47 : a3.tmps.getD 47 undef = u47 := hout 47 (free_of (by kernel_rfl))
              have e48 : a3.tmps.getD 48 undef = u48 := hout 48 (free_of (by kernel_rfl))
              have e93 : a3.tmps.getD 93 undef = u93 := hout 93 (free_of (by kernel_rfl))
              have e26 : a3.tmps.getD 26 undef = .int .i64 D := hout 26 (free_of (by kernel_rfl))
              have e27 : a3.tmps.getD 27 undef = .slice (some ⟨gr, 0, none⟩) D D := hout 27 (free_of (by kernel_rfl))
              have e28 : a3.tmps.getD 28 undef = .int .i64 D := hout 28 (free_of (by kernel_rfl))
              have e29 : a3.tmps.getD 29 undef = .bool false := hout 29 (free_of (by kernel_rfl))
              have e49 : a3.tmps.getD 49 undef = .slice (some ⟨gr, 0, none⟩) D D := hout 49 (free_of (by kernel_rfl))
              have e50 : a3.tmps.getD 50 undef = .int .i64 D := hout 50 (free_of (by kernel_rfl))
              have e51 : a3.tmps.getD 51 undef = .int .i64 E := hout 51 (free_of (by kernel_rfl))
              have e52 : a3.tmps.getD 52 undef = .slice (some ⟨gN, 0, none⟩) E E := hout 52 (free_of (by kernel_rfl))
              have e10 : a3.tmps.getD 10 undef = .pointer (some ⟨g10, 0, none⟩) := hout 10 (free_of (by kernel_rfl))
              obtain ⟨vc, hu⟩ : ∃ u : Nat → Value, ∀ t, a3.tmps.getD t undef = u t := ⟨_, fun _ => rfl⟩
              have ha := act_eq a3 96 hszn hdfn
              simp only [hu] at ha e0 e1 e2 e3 e4 e5 e6 e7 e12 e13 e14 e15 e16 e17 e18 e19 e20 e21 e22 e23 e94 e95 e8 e9 e24 e25 e30 e31 e32 e33 e34 e35 e36 e37 e38 e39 e40 e41 e42 e43 e44 e45 e46 e47 e48 e93 e26 e27 e28 e29 e49 e50 e51 e52 e10
              have ha' : a3 = ⟨#[vc 0, vc 1, vc 2, vc 3, vc 4, vc 5, vc 6, vc 7, vc 8, vc 9, vc 10, vc 11, vc 12, vc 13, vc 14, vc 15, vc 16, vc 17, vc 18, vc 19, vc 20, vc 21, vc 22, vc 23, vc 24, vc 25, vc 26, vc 27, vc 28, vc 29, vc 30, vc 31, vc 32, vc 33, vc 34, vc 35, vc 36, vc 37, vc 38, vc 39, vc 40, vc 41, vc 42, vc 43, vc 44, vc 45, vc 46, vc 47, vc 48, vc 49, vc 50, vc 51, vc 52, vc 53, vc 54, vc 55, vc 56, vc 57, vc 58, vc 59, vc 60, vc 61, vc 62, vc 63, vc 64, vc 65, vc 66, vc 67, vc 68, vc 69, vc 70, vc 71, vc 72, vc 73, vc 74, vc 75, vc 76, vc 77, vc 78, vc 79, vc 80, vc 81, vc 82, vc 83, vc 84, vc 85, vc 86, vc 87, vc 88, vc 89, vc 90, vc 91, vc 92, vc 93, vc 94, vc 95], []⟩ := ha
              rw [e0, e1, e2, e3, e4, e5, e6, e7, e12, e13, e14, e15, e16, e17, e18, e19, e20, e21, e22, e23, e94, e95, e8, e9, e24, e25, e30, e31, e32, e33, e34, e35, e36, e37, e38, e39, e40, e41, e42, e43, e44, e45, e46, e47, e48, e93, e26, e27, e28, e29, e49, e50, e51, e52, e10] at ha'
              clear ha hu e0 e1 e2 e3 e4 e5 e6 e7 e12 e13 e14 e15 e16 e17 e18 e19 e20 e21 e22 e23 e94 e95 e8 e9 e24 e25 e30 e31 e32 e33 e34 e35 e36 e37 e38 e39 e40 e41 e42 e43 e44 e45 e46 e47 e48 e93 e26 e27 e28 e29 e49 e50 e51 e52 e10 hszn hdfn hfacts hout hsz5 hdf5 hb5 f79 f80 hU hM8 hR8 hbU hX10 hgr l1 l2 l3
              subst ha'
              go_wp2_with fail
              refine region_flow_tail (Fe (pK18 gN E k j (mdT k (rowC k) j) (xT k (rowC k) j))) (by rfl) (Fe.mono _) 96 12 [] (by rfl) (by kernel_rfl) (by kernel_rfl) (by kernel_rfl) (by kernel_rfl) (fun t ht => by cases ht) [6, 8, 9, 10] (by kernel_rfl) ?g018 (Fe.draw _) ?gs18 ?gf18
              case g018 =>
                intro t ht
                simp only [List.mem_cons, List.not_mem_nil, or_false] at ht
                rcases ht with rfl | rfl | rfl | rfl
                · rfl
                · exact ⟨rfl, H6.out.1.toA (by omega)⟩
                · rfl
                · exact H6.out.2.2.2.2
              case gs18 =>
                exact ⟨flowN_of (e_move rfl) (by decide), flowN_of (e_move rfl) (by decide), flowN_of (e_move rfl) (by decide), flowN_of (e_move rfl) (by decide), flowN_of (e_indexA rfl rfl rfl (by omega)) (by decide), flowN_of (e_loadEA rfl rfl) (by decide), flowN_of (e_loadC rfl rfl) (by decide), flowN_of (e_move rfl) (by decide), flowN_of (e_fromI (n := (k : Int)) rfl rfl (by omega) (by omega) (sz_int (by omega) (by omega))) (by decide), flowN_of (e_mul4 rfl rfl rfl (sz_le (sz_mul H4.out.2.2.2.2.2 (sz_int (n := (k : Int)) (by omega) (by omega))) (Nat.le_refl _)) (by omega)) (by decide), flowN_of (e_subP rfl rfl rfl (by omega)) (by decide), flowN_of (e_idxM rfl rfl rfl (by omega)) (by decide), trivial⟩
              intro a3 w7 hb7 hsz7 hdf7 hfacts hout _
              have f91 : RatC w7 (a3.tmps.getD 91 undef) (mdT k (rowC k) j j - xT k (rowC k) j * quo (k : Int) 1) := hfacts 10 91 (by decide) rfl
              have f92 : a3.tmps.getD 92 undef = .pointer (some ⟨gN, 0 + j * 3, none⟩) := hfacts 11 92 (by decide) rfl
              rw [nxT_at] at f91
              have hszn : a3.tmps.size = 96 := hsz7
              have hdfn : a3.defers = [] := hdf7
              change runFrom _ _ _ 1 12 a3 w7
              simp only [runFrom]
              refine e_storeM (t := 92) (u := 91) (F' := nxT k (rowC k) (j + 1)) rfl f92 (H6.out.1.below hb7) (by omega) f91 (sz_nxT (fun i => HA.out.2.2.2.2.1 k i hlt) (by omega)) (fun i hi => nxT_other hi) fun v0 v1 v2 hU => ?_
              obtain ⟨xs, l1, l2, l3, _⟩ := H6.out.1.below hb7
              have hgr := grown_setL w7 gN (j * 3) v0 v1 v2
              have hM9 := (H6.out.2.1.below hb7).kept l1 l3 hgr (Nat.ne_of_lt H3.out.2.2.2.2.2)
              have hR9 := (H6.out.2.2.1.below hb7).kept l1 l3 hgr (fun _ b hb => by cases hb; exact Nat.ne_of_lt H3.out.2.2.2.2.1)
              have hbU := below_setL (below_next' H6.out.2.2.2.1 hb7) (g := gN) (o := j * 3) (Nat.le_of_lt H3.out.2.2.2.2.2) v0 v1 v2
              have HN := Lib.hid (And.intro hU (And.intro hM9 (And.intro hR9 hbU)))
              generalize (((w7.setCell ⟨gN, j * 3, none⟩ v0).setCell ⟨gN, j * 3 + 1, none⟩ v1).setCell ⟨gN, j * 3 + 2, none⟩ v2) = w8 at HN ⊢
              have e0 : a3.tmps.getD 0 undef = .slice a n cap := hout 0 (free_of (by kernel_rfl))
              have e1 : a3.tmps.getD 1 undef = undef := hout 1 (free_of (by kernel_rfl))
              have e2 : a3.tmps.getD 2 undef = .slice none 0 0 := hout 2 (free_of (by kernel_rfl))
              have e3 : a3.tmps.getD 3 undef = .bool false := hout 3 (free_of (by kernel_rfl))
              have e4 : a3.tmps.getD 4 undef = .slice (some ⟨w.heap.size, 0, none⟩) n n := hout 4 (free_of (by kernel_rfl))
              have e5 : a3.tmps.getD 5 undef = .slice (some ⟨gr, 0, none⟩) D D := hout 5 (free_of (by kernel_rfl))
              have e6 : a3.tmps.getD 6 undef = .int .i64 k := hout 6 (free_of (by kernel_rfl))
              have e7 : a3.tmps.getD 7 undef = .int .i64 D := hout 7 (free_of (by kernel_rfl))
              have e12 : a3.tmps.getD 12 undef = .slice a n cap := hout 12 (free_of (by kernel_rfl))
              have e13 : a3.tmps.getD 13 undef = .int .i64 n := hout 13 (free_of (by kernel_rfl))
              have e14 : a3.tmps.getD 14 undef = .bool (decide (33 < (n : Int))) := hout 14 (free_of (by kernel_rfl))
              have e15 : a3.tmps.getD 15 undef = .slice a n cap := hout 15 (free_of (by kernel_rfl))
              have e16 : a3.tmps.getD 16 undef = .int .i64 n := hout 16 (free_of (by kernel_rfl))
              have e17 : a3.tmps.getD 17 undef = .slice (some ⟨w.heap.size, 0, none⟩) n n := hout 17 (free_of (by kernel_rfl))
              have e18 : a3.tmps.getD 18 undef = .agg #[.bool sb, .slice q1 q2 q3, .slice q4 q5 q6] := hout 18 (free_of (by kernel_rfl))
              have e19 : a3.tmps.getD 19 undef = .slice (some ⟨w4.heap.size, 0, none⟩) 1 1 := hout 19 (free_of (by kernel_rfl))
              have e20 : a3.tmps.getD 20 undef = .int .i64 k := hout 20 (free_of (by kernel_rfl))
              have e21 : a3.tmps.getD 21 undef = .slice a n cap := hout 21 (free_of (by kernel_rfl))
              have e22 : a3.tmps.getD 22 undef = .int .i64 n := hout 22 (free_of (by kernel_rfl))
              have e23 : a3.tmps.getD 23 undef = .bool true := hout 23 (free_of (by kernel_rfl))
              have e94 : a3.tmps.getD 94 undef = undef := hout 94 (free_of (by kernel_rfl))
              have e95 : a3.tmps.getD 95 undef = undef := hout 95 (free_of (by kernel_rfl))
              have e8 : a3.tmps.getD 8 undef = .slice (some ⟨gN, 0, none⟩) E E := hout 8 (free_of (by kernel_rfl))
              have e9 : a3.tmps.getD 9 undef = .int .i64 j := hout 9 (free_of (by kernel_rfl))
              have e24 : a3.tmps.getD 24 undef = u24 := hout 24 (free_of (by kernel_rfl))
              have e25 : a3.tmps.getD 25 undef = u25 := hout 25 (free_of (by kernel_rfl))
              have e30 : a3.tmps.getD 30 undef = u30 := hout 30 (free_of (by kernel_rfl))
              have e31 : a3.tmps.getD 31 undef = u31 := hout 31 (free_of (by kernel_rfl))
              have e32 : a3.tmps.getD 32 undef = u32 := hout 32 (free_of (by kernel_rfl))
              have e33 : a3.tmps.getD 33 undef = u33 := hout 33 (free_of (by kernel_rfl))
              have e34 : a3.tmps.getD 34 undef = u34 := hout 34 (free_of (by kernel_rfl))
              have e35 : a3.tmps.getD 35 undef = u35 := hout 35 (free_of (by kernel_rfl))
              have e36 : a3.tmps.getD 36 undef = u36 := hout 36 (free_of (by kernel_rfl))
              have e37 : a3.tmps.getD 37 undef = u37 := hout 37 (free_of (by kernel_rfl))
              have e38 : a3.tmps.getD 38 undef = u38 := hout 38 (free_of (by kernel_rfl))
              have e39 : a3.tmps.getD 39 undef = u39 := hout 39 (free_of (by kernel_rfl))
              have e40 : a3.tmps.getD 40 undef = u40 := hout 40 (free_of (by kernel_rfl))
              have e41 : a3.tmps.getD 41 undef = u41 := hout 41 (free_of (by kernel_rfl))
              have e42 : a3.tmps.getD 42 undef = u42 := hout 42 (free_of (by kernel_rfl))
              have e43 : a3.tmps.getD 43 undef = u43 := hout 43 (free_of (by kernel_rfl))
              have e44 : a3.tmps.getD 44 undef = u44 := hout 44 (free_of (by kernel_rfl))
              have e45 : a3.tmps.getD 45 undef = u45 := hout 45 (free_of (by kernel_rfl))
              have e46 : a3.tmps.getD 46 undef = u46 := hout 46 (free_of (by kernel_rfl))
              have e47 : a3.tmps.getD 47 undef = u47 := hout 47 (free_of (by kernel_rfl))
              have e48 : a3.tmps.getD 48 undef = u48 := hout 48 (free_of (by kernel_rfl))
              have e93 : a3.tmps.getD 93 undef = u93 := hout 93 (free_of (by kernel_rfl))
              have e26 : a3.tmps.getD 26 undef = .int .i64 D := hout 26 (free_of (by kernel_rfl))
              have e27 : a3.tmps.getD 27 undef = .slice (some ⟨gr, 0, none⟩) D D := hout 27 (free_of (by kernel_rfl))
              have e28 : a3.tmps.getD 28 undef = .int .i64 D := hout 28 (free_of (by kernel_rfl))
              have e29 : a3.tmps.getD 29 undef = .bool false := hout 29 (free_of (by kernel_rfl))
              have e49 : a3.tmps.getD 49 undef = .slice (some ⟨gr, 0, none⟩) D D := hout 49 (free_of (by kernel_rfl))
              have e50 : a3.tmps.getD 50 undef = .int .i64 D := hout 50 (free_of (by kernel_rfl))
              have e51 : a3.tmps.getD 51 undef = .int .i64 E := hout 51 (free_of (by kernel_rfl))
              have e52 : a3.tmps.getD 52 undef = .slice (some ⟨gN, 0, none⟩) E E := hout 52 (free_of (by kernel_rfl))
              have e10 : a3.tmps.getD 10 undef = .pointer (some ⟨g10, 0, none⟩) := hout 10 (free_of (by kernel_rfl))
              obtain ⟨vd, hu⟩ : ∃ u : Nat → Value, ∀ t, a3.tmps.getD t undef = u t := ⟨_, fun _ => rfl⟩
              have ha := act_eq a3 96 hszn hdfn
              simp only [hu] at ha e0 e1 e2 e3 e4 e5 e6 e7 e12 e13 e14 e15 e16 e17 e18 e19 e20 e21 e22 e23 e94 e95 e8 e9 e24 e25 e30 e31 e32 e33 e34 e35 e36 e37 e38 e39 e40 e41 e42 e43 e44 e45 e46 e47 e48 e93 e26 e27 e28 e29 e49 e50 e51 e52 e10
              have ha' : a3 = ⟨#[vd 0, vd 1, vd 2, vd 3, vd 4, vd 5, vd 6, vd 7, vd 8, vd 9, vd 10, vd 11, vd 12, vd 13, vd 14, vd 15, vd 16, vd 17, vd 18, vd 19, vd 20, vd 21, vd 22, vd 23, vd 24, vd 25, vd 26, vd 27, vd 28, vd 29, vd 30, vd 31, vd 32, vd 33, vd 34, vd 35, vd 36, vd 37, vd 38, vd 39, vd 40, vd 41, vd 42, vd 43, vd 44, vd 45, vd 46, vd 47, vd 48, vd 49, vd 50, vd 51, vd 52, vd 53, vd 54, vd 55, vd 56, vd 57, vd 58, vd 59, vd 60, vd 61, vd 62, vd 63, vd 64, vd 65, vd 66, vd 67, vd 68, vd 69, vd 70, vd 71, vd 72, vd 73, vd 74, vd 75, vd 76, vd 77, vd 78, vd 79, vd 80, vd 81, vd 82, vd 83, vd 84, vd 85, vd 86, vd 87, vd 88, vd 89, vd 90, vd 91, vd 92, vd 93, vd 94, vd 95], []⟩ := ha
              rw [e0, e1, e2, e3, e4, e5, e6, e7, e12, e13, e14, e15, e16, e17, e18, e19, e20, e21, e22, e23, e94, e95, e8, e9, e24, e25, e30, e31, e32, e33, e34, e35, e36, e37, e38, e39, e40, e41, e42, e43, e44, e45, e46, e47, e48, e93, e26, e27, e28, e29, e49, e50, e51, e52, e10] at ha'
              clear ha hu e0 e1 e2 e3 e4 e5 e6 e7 e12 e13 e14 e15 e16 e17 e18 e19 e20 e21 e22 e23 e94 e95 e8 e9 e24 e25 e30 e31 e32 e33 e34 e35 e36 e37 e38 e39 e40 e41 e42 e43 e44 e45 e46 e47 e48 e93 e26 e27 e28 e29 e49 e50 e51 e52 e10 hszn hdfn hfacts hout hsz7 hdf7 hb7 f91 f92 hU hM9 hR9 hbU hgr l1 l2 l3
              subst ha'
              go_wp2
              go_roundw
              case rel => exact ⟨j + 1, by omega, by go_num, HN.out⟩
              case measure => simp [intOf] <;> omega
            · obtain rfl : D = j := by omega
              have hDk1 := HR.out.2.2.2.2.1
              have hEk : E = k + 1 + 1 := by rw [hDk1]; exact HR.out.2.2.2.2.2.symm
              have hgN : gN ≠ w.heap.size := Nat.ne_of_gt H3.out.2.2.2.2.2
              have hM' := hM.congr (F' := fun i => sumN (fun k => f k * rowC k i) D) fun i _ => by
                have h := pOut_end f k i
                rw [hDk1] at h
                exact h
              have hX' := (hX.congr (F' := rowC D) fun i _ => by
                have h := nxT_end k i
                rw [hDk1] at h
                exact h).toA (by omega)
              have HN := Lib.hid (And.intro hM' (And.intro hX' (And.intro hbel (And.intro hEk hgN))))
              clear hX hM hR hbel hltj hM' hX' hEk hgN
              go_wp2
              go_roundw
              case rel => exact ⟨D, gN, hDn, HN.out.2.2.2.2, by rw [HN.out.2.2.2.1, hDk1], by first | rfl | go_num, HN.out.1, by rw [show D + 1 = E by omega]; exact HN.out.2.1, HN.out.2.2.1⟩
              case measure => simp [intOf] <;> omega
    · obtain rfl : n = k := by omega
      have HF := Lib.hid (And.intro (hM.toA (by omega)) hbel)
      clear hM hR hbel hgr
      go_wp2_with fail
      refine (refCanonical_list (some ⟨w.heap.size, 0, none⟩) n n 600 _ _ HF.out.1 (by omega) (by omega)).mono ?_
      rintro e w6 ⟨v6, rfl, hv6, hb6⟩
      have htr := trimN_congr n (fun i _ => HA.out.2.2.1 i)
      have hv7 := hv6.congr fun i _ => HA.out.2.2.1 i
      rw [htr] at hv7
      have HG := Lib.hid (And.intro hv7 (below_next' HF.out.2 hb6))
      clear hv6 hv7 hb6 htr
      go_wp2
      go_ret2
      exact ⟨_, rfl, HG.out.1, HG.out.2⟩
set_option maxRecDepth 100000 in
theorem refPowers_out (a : Option Addr) (n cap : Nat) (F : Nat → Rat) (w : World) (m1 : n ≤ 9223372036854775807) (h : 33 < n) : Calls Try.prog 39 #[.slice a n cap] w (ListB 0 F false w) := by
  go_enter Try.func39, Try.ntmps39
  go_wp2
  go_ret2
  exact ⟨_, rfl, Lst.nil _ _, Below.refl _ _⟩
end Go.Proofs.Ytdpiclmjdcjajaa

/-
  The walk of the law BinomialPowers: for every list that can be read it returns true. No conditions.
-/
namespace Go.Proofs.Ytdpiclmjdcjajaa
open Go.RowKit Num

theorem sz_nstP9 {f : Nat → Rat} {n i : Nat} (hf : ∀ i, i < n → Sz (f i) 9) (hn : n ≤ 33) : Sz (nst tk f 0 n i) 600 := by
  rw [nst_powers]
  exact sz_le (sz_sumK (n := n) (K := 15) (fun l hl => sz_le (sz_mul (hf l hl) (sz_rowC i (by omega))) (Nat.le_refl _)) n (Nat.le_refl _)) (by omega)
theorem sz_nstF9 {f : Nat → Rat} {n i : Nat} (hf : ∀ i, i < n → Sz (f i) 9) (hn : n ≤ 33) (hi : i < n) : Sz (nst mn f 0 n i) 319 := by
  have h : difs (vP f n) i 0 = nst mn f 0 n i := by
    have := difs_powers f n i
    rw [if_pos hi] at this
    exact this
  rw [← h]
  exact sz_difsP hf hn (by omega)
theorem pow_both (a : Option Addr) (n cap : Nat) (f : Nat → Rat) (hn : n ≤ 34) (hf : ∀ i, i < n → Sz (f i) 9) :
    ∃ m h c, (∀ i, i < m → Sz (h i) 600) ∧ (∀ w, LstA w (.slice a n cap) n 8 f → Calls Try.prog 38 #[.slice a n cap] w (ListB m h c w)) ∧ ∀ w, LstA w (.slice a n cap) n 8 f → Calls Try.prog 39 #[.slice a n cap] w (ListB m h c w) := by
  by_cases h33 : n ≤ 33
  · exact ⟨_, _, true, fun i _ => sz_nstP9 hf h33, fun w hl => powers_in a n cap f w h33 hl hf, fun w hl => refPowers_in a n cap f w h33 hl hf⟩
  · exact ⟨0, f, false, fun i hi => by omega, fun w _ => powers_out a n cap f w (by omega) (by omega), fun w _ => refPowers_out a n cap f w (by omega) (by omega)⟩
theorem from_both (a : Option Addr) (n cap : Nat) (f : Nat → Rat) (hn : n ≤ 34) (hf : ∀ i, i < n → Sz (f i) 9) :
    ∃ m h c, (∀ i, i < m → Sz (h i) 600) ∧ (∀ w, LstA w (.slice a n cap) n 8 f → Calls Try.prog 40 #[.slice a n cap] w (ListB m h c w)) ∧ ∀ w, LstA w (.slice a n cap) n 8 f → Calls Try.prog 41 #[.slice a n cap] w (ListB m h c w) := by
  by_cases h33 : n ≤ 33
  · refine ⟨_, _, true, fun i hi => ?_, fun w hl => fromP_in a n cap f w h33 hl hf, fun w hl => refFromP_in a n cap f w h33 hl hf⟩
    have := trimN_le (nst mn f 0 n) n
    exact sz_le (sz_nstF9 hf h33 (by omega)) (by omega)
  · exact ⟨0, f, false, fun i hi => by omega, fun w _ => fromP_out a n cap f w (by omega) (by omega), fun w _ => refFromP_out a n cap f w (by omega) (by omega)⟩

set_option maxRecDepth 100000 in
set_option maxHeartbeats 8000000 in
theorem powers_walk (a : Option Addr) (n cap : Nat) (f : Nat → Rat) (sm : Nat → Bool) (w : World) (hn : n ≤ 9223372036854775807) (h1 : n ≤ cap) (h2 : cap ≤ 9223372036854775807) (h : ∀ i, i < n → ElemAt w a i f sm) :
    Calls Try.prog 9 #[.slice a n cap] w (TrueP w) := by
  have hrats := rats34_any a n cap f sm w hn h
  have HH := Lib.hid (And.intro h hrats)
  clear h hrats
  go_enter Try.func9, Try.ntmps9
  go_wp2_with fail
  refine HH.out.2.mono ?_
  rintro e w0 ⟨bb, rfl, hbb, hb0⟩
  have HB := Lib.hid (And.intro hbb hb0)
  clear hbb hb0
  cases bb
  · go_wp2
    go_ret
    exact ⟨rfl, HB.out.2⟩
  obtain ⟨hl, hf⟩ := lstA_of HH.out.1 (HB.out.1 (by first | rfl | trivial)).2 h1 h2
  obtain ⟨m, h', c, hs, hp, hr⟩ := pow_both a n cap f (HB.out.1 (by first | rfl | trivial)).1 hf
  obtain ⟨m', h2', c', hs', hp', hr'⟩ := from_both a n cap f (HB.out.1 (by first | rfl | trivial)).1 hf
  have HA := Lib.hid (And.intro hs (And.intro hp hr))
  have HM := Lib.hid (And.intro hs' (And.intro hp' hr'))
  have HL := Lib.hid hl
  clear hs hp hr hs' hp' hr' hl hf
  go_wp2_with fail
  refine (HA.out.2.1 _ (HL.out.below HB.out.2)).mono ?_
  rintro e w1 ⟨v1, rfl, hv1, hb1⟩
  have H1 := Lib.hid (And.intro hv1 (below_next' HB.out.2 hb1))
  clear hv1 hb1
  go_wp2_with fail
  refine (HA.out.2.2 _ (HL.out.below H1.out.2)).mono ?_
  rintro e w2 ⟨v2, rfl, hv2, hb2⟩
  have H2 := Lib.hid (And.intro (H1.out.1.below hb2) (And.intro hv2 (below_next' H1.out.2 hb2)))
  clear hv2 hb2
  go_wp2_with fail
  refine (HM.out.2.1 _ (HL.out.below H2.out.2.2)).mono ?_
  rintro e w3 ⟨v3, rfl, hv3, hb3⟩
  have H3 := Lib.hid (And.intro (H2.out.1.below hb3) (And.intro (H2.out.2.1.below hb3) (And.intro hv3 (below_next' H2.out.2.2 hb3))))
  clear hv3 hb3
  go_wp2_with fail
  refine (HM.out.2.2 _ (HL.out.below H3.out.2.2.2)).mono ?_
  rintro e w4 ⟨v4, rfl, hv4, hb4⟩
  have H4 := Lib.hid (And.intro (H3.out.1.below hb4) (And.intro (H3.out.2.1.below hb4) (And.intro (H3.out.2.2.1.below hb4) (And.intro hv4 (below_next' H3.out.2.2.2 hb4)))))
  clear hv4 hb4
  go_wp2_with fail
  refine (sameRats_any _ _ m 600 h' _ H4.out.1 H4.out.2.1 HA.out.1 (by omega)).mono ?_
  rintro e w5 ⟨rfl, hb5⟩
  have H5 := Lib.hid (And.intro (H4.out.2.2.1.below hb5) (And.intro (H4.out.2.2.2.1.below hb5) (below_next' H4.out.2.2.2.2 hb5)))
  clear hb5
  go_wp2_with fail
  refine (sameRats_any _ _ m' 600 h2' _ H5.out.1 H5.out.2.1 HM.out.1 (by omega)).mono ?_
  rintro e w6 ⟨rfl, hb6⟩
  have H6 := Lib.hid (below_next' H5.out.2.2 hb6)
  clear hb6
  go_wp2_with fail
  refine (awake2_any _).mono ?_
  rintro e w7 ⟨rfl, hb7⟩
  have H7 := Lib.hid (below_next' H6.out hb7)
  clear hb7
  go_wp2
  go_ret
  exact ⟨rfl, H7.out⟩
end Go.Proofs.Ytdpiclmjdcjajaa

/-
  The walk of the law BinomialBases: for every list that can be read and every integer it returns true. No conditions.
-/
namespace Go.Proofs.Ytdpiclmjdcjajaa
open Go.RowKit Num

theorem trimN_cutB {f : Nat → Rat} {m : Nat} : ∀ n, m ≤ n → (∀ j, m ≤ j → j < n → f j = 0) → trimN f n = trimN f m
  | 0, hm, _ => by rw [show m = 0 by omega]
  | n + 1, hm, h => by
    by_cases hn : m = n + 1
    · rw [hn]
    · rw [trimN_zero (h n (by omega) (by omega)), trimN_cutB n (by omega) fun j h1 h2 => h j h1 (by omega)]
theorem evQ_evRB {f : Nat → Rat} {n : Nat} {z : Int} (h : 0 ≤ z) : evQ f n z = evR f n (z : Rat) := sumN_congr n fun i _ => by rw [ch_rz h]
theorem sz_nstP10 {f : Nat → Rat} {n i : Nat} (hf : ∀ i, i < n → Sz (f i) 9) (hn : n ≤ 10) : Sz (nst tk f 0 n i) 161 := by
  rw [nst_powers]
  exact sz_le (sz_sumK (n := n) (K := 15) (fun l hl => sz_le (sz_mul (hf l hl) (sz_rowC i (by omega))) (Nat.le_refl _)) n (Nat.le_refl _)) (by omega)
theorem wh_powI (x : Int) : ∀ k, Wh 1 (x.natAbs ^ k) (powQ (x : Rat) k)
  | 0 => (wh_int 1).le (by rw [Nat.pow_zero]; decide)
  | k + 1 => (wh_powI x k).mul (wh_int x)
theorem sz_powI {x : Int} {k : Nat} (hx : x.natAbs ≤ 1000) (hk : k ≤ 10) : Sz (powQ (x : Rat) k) 5 := by
  refine sz_of_wh1 ((wh_powI x k).le ?_)
  refine Nat.le_trans (Nat.pow_le_pow_left hx k) (Nat.le_trans (Nat.pow_le_pow_right (by omega) hk) ?_)
  unfold pw
  decide
theorem sz_horner {P : Nat → Rat} {x : Int} {k d : Nat} (hP : ∀ i, Sz (P i) 161) (hx : x.natAbs ≤ 1000) (hd : d ≤ 10) : Sz (horner P (x : Rat) k d) 1800 := by
  rw [horner_pow]
  exact sz_le (sz_sumK (n := d) (K := 167) (fun j hj => sz_le (sz_mul (hP (k + j)) (sz_powI hx (by omega))) (Nat.le_refl _)) d (Nat.le_refl _)) (by omega)
theorem horner_step (P : Nat → Rat) (x : Int) (k d : Nat) : horner P (x : Rat) (k + 1) d * quo x 1 + P k = horner P (x : Rat) k (d + 1) := by
  show _ = P k + (x : Rat) * horner P (x : Rat) (k + 1) d
  rw [quo_cast]
  grind
section
variable {κ : Tmp → Ke} {G : Nat → Option Tmp} {d s t u c : Tmp} {ty : TypeId} {pos : String} {es : Array Edge} {k k' K : Nat} {p q : Rat} {f : Nat → Rat}
theorem e_addCR (ht : κ t = .rc k p) (hu : κ u = .ra k' q) (hd : κ d = .ratC (p + q)) (hk : k + k' ≤ 15000) :
    FlowStep Try.prog (Fe κ) G ⟨some d, .call ⟨.value (.func 44), #[.tmp t, .tmp u], #[24, 24]⟩, ty, pos, es, none⟩ :=
  e_c2 (fun a w => c2_44 _ _ _ _ _ _ _ _) fun w x y hx hy => by
    rw [ht] at hx
    rw [hu] at hy
    have hy : RatA w y k' q := hy
    obtain ⟨hx1, hx2⟩ := (show RatC w x p ∧ Sz p k from hx)
    refine (refAdd_a (k := k + k') ((hx1.a hx2).le (by omega)) (hy.le (by omega)) hk).mono ?_
    rintro e w' ⟨v, rfl, hv, hb⟩
    exact ⟨v, rfl, by rw [hd]; exact hv, hb⟩
end
def bK10 (u : Value) (x : Int) (M k : Nat) (s : Rat) (P : Nat → Rat) : Tmp → Ke := fun t => ([.any, .con (.int .i64 x), .any, .any, .any, .lsa u M 161 P, .any, .any, .any, .any, .any, .box 1800 s, .con (.int .i64 k), .any, .any, .any, .any, .any, .any, .any, .any, .any, .any, .any, .any, .any, .any, .any, .any, .any, .any, .any, .any, .any, .any, .any, .any, .any, .any, .any, .any, .any, .any, .any, .any, .any, .any, .any, .ra 1800 s, .con (.int .i64 x), .rc 3 (quo x 1), .rc 1804 (s * quo x 1), .lsa u M 161 P, .con (.int .i64 k), .elA 161 (P k), .ra 161 (P k), .ratC (s * quo x 1 + P k)] : List Ke).getD t .any
/-- FromPowers of the powers. -/
theorem from_again (a : Option Addr) (cap n : Nat) (f : Nat → Rat) (w : World) (hn : n ≤ 10) (hf : ∀ i, i < n → Sz (f i) 9) (hl : Lst w (.slice a (trimN (nst tk f 0 n) n) cap) (trimN (nst tk f 0 n) n) (nst tk f 0 n)) :
    Calls Try.prog 40 #[.slice a (trimN (nst tk f 0 n) n) cap] w (ListB (trimN f n) f true w) := by
  have hT := trimN_le (nst tk f 0 n) n
  have h0 := fun i h1 h2 => trimN_over (f := nst tk f 0 n) n i h1 h2
  have hQ : ∀ i, Sz (nst tk f 0 n i) 161 := fun i => sz_nstP10 hf hn
  generalize trimN (nst tk f 0 n) n = M at hT h0 hl
  have hback := fun j hj => powers_back f (nst tk f 0 n) n M (fun i _ => rfl) h0 hT j hj
  generalize nst tk f 0 n = P at hl hQ hback
  have hc := fromP_gen a M cap 161 161 1611 1773 P w (by omega) (hl.toA fun i _ => hQ i) (fun i _ => hQ i) (by omega) (by omega) (by omega) (by omega)
    (fun i hi => (wh_scl2 (fun i _ => hQ i) hi).le (pw_le (by have : 161 * (M + 1) ≤ 161 * 11 := Nat.mul_le_mul_left _ (by omega); omega))) (by omega)
  have hlen : trimN (nst mn P 0 M) M = trimN f n := by
    have e1 : trimN f n = trimN f M := trimN_cutB n hT fun j h1 h2 => by
      have := hback j h2
      rw [if_neg (by omega)] at this
      exact this.symm
    rw [e1]
    exact trimN_congr M fun i hi => by
      have := hback i (by omega)
      rw [if_pos hi] at this
      exact this
  refine hc.mono ?_
  rintro e w' ⟨v, rfl, hv, hb⟩
  rw [hlen] at hv
  have hTM : trimN f n ≤ M := by rw [← hlen]; exact trimN_le _ _
  exact ⟨v, rfl, hv.congr fun i hi => by
    have := hback i (by omega)
    rw [if_pos (by omega)] at this
    exact this, hb⟩
/-- The value of the powers. -/
theorem bases_value (f : Nat → Rat) (n : Nat) {x : Int} (hx : 0 ≤ x) : horner (nst tk f 0 n) (x : Rat) 0 (trimN (nst tk f 0 n) n) = evQ f n x := by
  have hT := trimN_le (nst tk f 0 n) n
  have h0 := fun i h1 h2 => trimN_over (f := nst tk f 0 n) n i h1 h2
  rw [evQ_evRB hx, ← evP_powers, horner_pow]
  have e : ∀ m, trimN (nst tk f 0 n) n ≤ m → m ≤ n → evP (nst tk f 0 n) m (x : Rat) = evP (nst tk f 0 n) (trimN (nst tk f 0 n) n) (x : Rat) := by
    intro m
    induction m with
    | zero => intro h _; rw [show trimN (nst tk f 0 n) n = 0 by omega]
    | succ m ih =>
      intro h1 h2
      by_cases h : trimN (nst tk f 0 n) n = m + 1
      · rw [h]
      · show evP (nst tk f 0 n) m (x : Rat) + nst tk f 0 n m * powQ (x : Rat) m = _
        rw [ih (by omega) (by omega), h0 m (by omega) (by omega)]
        grind
  rw [e n hT (Nat.le_refl _)]
  unfold evP
  exact sumN_congr _ fun j _ => by rw [Nat.zero_add]

set_option maxRecDepth 100000 in
set_option maxHeartbeats 16000000 in
theorem bases_walk (a : Option Addr) (n cap : Nat) (f : Nat → Rat) (sm : Nat → Bool) (x : Int) (w : World) (hn : n ≤ 9223372036854775807) (h1 : n ≤ cap) (h2 : cap ≤ 9223372036854775807) (h : ∀ i, i < n → ElemAt w a i f sm) (y1 : -9223372036854775808 ≤ x) (y2 : x ≤ 9223372036854775807) :
    Calls Try.prog 16 #[.slice a n cap, .int .i64 x] w (TrueP w) := by
  have hfew := few_any a n cap f sm w hn h
  have HH := Lib.hid (And.intro h hfew)
  clear h hfew
  go_enter Try.func16, Try.ntmps16
  go_wp2_with fail
  refine HH.out.2.mono ?_
  rintro e w0 ⟨bb, rfl, hbb, hb0⟩
  have HB := Lib.hid (And.intro hbb hb0)
  clear hbb hb0
  cases bb
  · go_wp2
    go_ret
    exact ⟨rfl, HB.out.2⟩
  by_cases g1 : x < 0
  · go_wp2
    go_ret
    exact ⟨rfl, HB.out.2⟩
  by_cases g2 : 1000 < x
  · go_wp2
    go_ret
    exact ⟨rfl, HB.out.2⟩
  obtain ⟨hl, hf⟩ := lstA_of HH.out.1 (HB.out.1 (by first | rfl | trivial)).2 h1 h2
  have hn10 := (HB.out.1 (by first | rfl | trivial)).1
  have hlA := hl.below HB.out.2
  have hd := powers_in a n cap f w0 (by omega) hlA hf
  have hag := fun va vc w' => from_again va vc n f w' hn10 hf
  have hval := bases_value f n (x := x) (by omega)
  have hQ : ∀ i, Sz (nst tk f 0 n i) 161 := fun i => sz_nstP10 hf hn10
  have hT := trimN_le (nst tk f 0 n) n
  have hfs : ∀ i, i < trimN f n → Sz (f i) 9 := fun i hi => hf i (Nat.lt_of_lt_of_le hi (trimN_le f n))
  have hev : Sz (evQ f n x) 400 := sz_le (sz_sumK (n := n) (K := 34) (fun i hi => sz_le (sz_mul (hf i hi) (sz_chI (z := x) (by omega) (by omega) (by omega))) (Nat.le_refl _)) n (Nat.le_refl _)) (by omega)
  obtain ⟨M, hM⟩ : ∃ M, trimN (nst tk f 0 n) n = M := ⟨_, rfl⟩
  rw [hM] at hd hval hT
  simp only [hM] at hag
  obtain ⟨P, hP⟩ : ∃ P, nst tk f 0 n = P := ⟨_, rfl⟩
  rw [hP] at hd hval hQ
  simp only [hP] at hag
  obtain ⟨V, hV⟩ : ∃ V, evQ f n x = V := ⟨_, rfl⟩
  rw [hV] at hval hev
  have HA := Lib.hid (And.intro hd (And.intro hag (And.intro hval (And.intro hQ (And.intro hlA (And.intro hf (And.intro hfs (And.intro hev hV))))))))
  clear hd hag hval hQ hlA hf hfs hl hM hP hev hV
  go_wp2_with fail
  refine HA.out.1.mono ?_
  rintro e w1 ⟨v1, rfl, hv1, hb1⟩
  obtain ⟨va, vc, rfl, _⟩ := id hv1
  have H1 := Lib.hid (And.intro hv1 hb1)
  clear hv1 hb1
  go_wp2_with fail
  refine (HA.out.2.1 va vc _ H1.out.1).mono ?_
  rintro e w2 ⟨v2, rfl, hv2, hb2⟩
  have H2 := Lib.hid (And.intro (H1.out.1.below hb2) (And.intro hv2 (below_next' H1.out.2 hb2)))
  clear hv2 hb2
  go_wp2_with fail
  refine (eval_all _ n 8 40 f x _ (HA.out.2.2.2.2.1.below H2.out.2.2) (by omega) (by omega) (by omega) (fun i hi => sz_le (sz_mul (HA.out.2.2.2.2.2.1 i hi) (sz_chI (z := x) (by omega) (by omega) (by omega))) (by omega)) (by omega) (by omega)).mono ?_
  rintro e w3 ⟨v3, rfl, hv3, hb3⟩
  rw [HA.out.2.2.2.2.2.2.2.2] at hv3
  have hv3' := hv3
  obtain ⟨j1, j2, j3, j4, j5, j6, rfl, _⟩ := hv3
  obtain ⟨s3, hs3⟩ : ∃ s, decide (V.num < 0) = s := ⟨_, rfl⟩
  rw [hs3] at hv3' ⊢
  have hb4 := below_alloc1 w3 (.cells #[.bool s3, .slice j1 j2 j3, .slice j4 j5 j6] 24)
  have hB4 := BoxV.new w3 w3.heap.size 24 (Nat.le_refl _) [.bool s3, .slice j1 j2 j3, .slice j4 j5 j6]
  have h9 : RtO w3 w3.heap.size V (w3.alloc (.cells #[.bool s3, .slice j1 j2 j3, .slice j4 j5 j6] 24)) := ⟨j1, j2, j3, j4, j5, j6, by rw [hs3]; exact hB4, by rw [hs3]; exact hv3'.below hb4⟩
  have hsz4 : (w3.alloc (.cells #[.bool s3, .slice j1 j2 j3, .slice j4 j5 j6] 24)).heap.size = w3.heap.size + 1 := Array.size_push _
  have H3 := Lib.hid (And.intro h9 (And.intro (H2.out.1.below hb3) (And.intro (H2.out.2.1.below hb3) (And.intro (below_next' (below_next' HB.out.2 H2.out.2.2) hb3) (And.intro (below_next' H2.out.2.2 hb3) (And.intro hb4 hsz4))))))
  clear hv3' hb3 hb4 hB4 hs3 h9 hsz4
  go_wp2_with fail
  generalize w3.alloc (.cells #[.bool s3, .slice j1 j2 j3, .slice j4 j5 j6] 24) = W4 at H3 ⊢
  go_wp2_with fail
  refine (refFromInt_any 0 _ (by omega) (by omega)).mono ?_
  rintro e w5 ⟨v5, rfl, hv5, hb5⟩
  rw [quo_zero] at hv5
  have hv5' := hv5
  obtain ⟨p1, p2, p3, p4, p5, p6, rfl, _⟩ := hv5
  obtain ⟨sa, hsa⟩ : ∃ s, decide ((0 : Rat).num < 0) = s := ⟨_, rfl⟩
  rw [hsa] at hv5' ⊢
  have hb6 := below_alloc1 w5 (.cells #[.bool sa, .slice p1 p2 p3, .slice p4 p5 p6] 24)
  have hszw : w3.heap.size + 1 ≤ w5.heap.size := by have h1 := hb5.size; have h2 := H3.out.2.2.2.2.2.2; omega
  have hB6 := BoxV.new w5 w3.heap.size 24 (by omega) [.bool sa, .slice p1 p2 p3, .slice p4 p5 p6]
  have h11 : RtO w3 w5.heap.size 0 (w5.alloc (.cells #[.bool sa, .slice p1 p2 p3, .slice p4 p5 p6] 24)) := ⟨p1, p2, p3, p4, p5, p6, by rw [hsa]; exact hB6, by rw [hsa]; exact hv5'.below hb6⟩
  have hbb := below_next' hb5 hb6
  have hne : w3.heap.size ≠ w5.heap.size := by omega
  have H5 := Lib.hid (And.intro (H3.out.1.below hbb) (And.intro h11 (And.intro (below_next' H3.out.2.2.2.2.2.1 hbb) hne)))
  clear hv5' hb5 hb6 hszw hB6 h11 hbb hne hsa
  go_wp2_with fail
  generalize w5.alloc (.cells #[.bool sa, .slice p1 p2 p3, .slice p4 p5 p6] 24) = W6 at H5 ⊢
  go_wp2_with fail
  have hMn : M ≤ 10 := by
    have := HB.out.1 (by first | rfl | trivial)
    omega
  go_loopw [12] (fun x12 wr => ∃ d : Nat, d ≤ M ∧ x12 = .int .i64 ((M : Int) - d - 1) ∧ RtO w3 w5.heap.size (horner P (x : Rat) (M - d) d) wr ∧ RtO w3 w3.heap.size V wr ∧ Below w3.heap.size w3 wr) (fun x12 _ => (intOf x12 + 1).toNat)
  case atStart => exact ⟨0, Nat.zero_le _, by simp, H5.out.2.1, H5.out.1, H5.out.2.2.1⟩
  case round =>
    obtain ⟨wB, hwB⟩ : ∃ y, y = wr := ⟨_, rfl⟩
    subst hwB
    obtain ⟨d, hd, rfl, h11, h9, hbl⟩ := hrel
    by_cases hdM : d < M
    · obtain ⟨k, hk⟩ : ∃ k : Nat, k + 1 + d = M := ⟨M - d - 1, by omega⟩
      have hki : (M : Int) - d - 1 = (k : Int) := by omega
      rw [hki]
      have hk0 : (0 : Int) ≤ (k : Int) := by omega
      have hkM : k < M := by omega
      have hkd : M - (d + 1) = k := by omega
      have hki2 : (M : Int) - ((d + 1 : Nat) : Int) - 1 = (k : Int) - 1 := by omega
      rw [show M - d = k + 1 by omega] at h11
      have hss : Sz (horner P (x : Rat) (k + 1) d) 1800 := sz_horner HA.out.2.2.2.1 (by omega) (by omega)
      have hst := horner_step P x k d
      obtain ⟨SS, hSS⟩ : ∃ SS, horner P (x : Rat) (k + 1) d = SS := ⟨_, rfl⟩
      obtain ⟨SN, hSN⟩ : ∃ SN, horner P (x : Rat) k (d + 1) = SN := ⟨_, rfl⟩
      rw [hSS] at h11 hss hst
      rw [hSN] at hst
      have H7 := Lib.hid (And.intro ((H3.out.2.1.toA fun i _ => HA.out.2.2.2.1 i).below hbl) (And.intro h11 (And.intro h9 (And.intro hss (And.intro hst (And.intro hbl (And.intro hSN (And.intro hkd hki2))))))))
      clear h11 h9 hss hst hbl hSS hSN hki hkd hki2
      go_wp2_with fail
      refine region_flow_tail (Fe (bK10 (.slice va M vc) x M k SS P)) (by rfl) (Fe.mono _) 78 9 [] (by rfl) (by kernel_rfl) (by kernel_rfl) (by kernel_rfl) (by kernel_rfl) (fun t ht => by cases ht) [1, 5, 11, 12] (by kernel_rfl) ?g0 (Fe.draw _) ?gs ?gf
      case g0 =>
        intro t ht
        simp only [List.mem_cons, List.not_mem_nil, or_false] at ht
        rcases ht with rfl | rfl | rfl | rfl
        · rfl
        · exact ⟨rfl, H7.out.1⟩
        · exact H7.out.2.1.box H7.out.2.2.2.1
        · rfl
      case gs =>
        exact ⟨flowN_of (e_loadC rfl rfl) (by decide), flowN_of (e_move rfl) (by decide), flowN_of (e_fromI (n := x) rfl rfl (by omega) (by omega) (sz_int (by omega) (by omega))) (by decide), flowN_of (e_mul4 rfl rfl rfl (sz_le (sz_mul H7.out.2.2.2.1 (sz_int (n := x) (by omega) (by omega))) (Nat.le_refl _)) (by omega)) (by decide), flowN_of (e_move rfl) (by decide), flowN_of (e_move rfl) (by decide), flowN_of (e_indexA rfl rfl rfl hkM) (by decide), flowN_of (e_loadEA rfl rfl) (by decide), flowN_of (e_addCR rfl rfl rfl (by omega)) (by decide), trivial⟩
      intro a3 w6 hb6 hsz6 hdf6 hfacts hout _
      have f56 : RatC w6 (a3.tmps.getD 56 undef) (SS * quo x 1 + P k) := hfacts 8 56 (by decide) rfl
      rw [H7.out.2.2.2.2.1] at f56
      have hszn : a3.tmps.size = 78 := hsz6
      have hdfn : a3.defers = [] := hdf6
      obtain ⟨c1, c2, c3, c4, c5, c6, hBx, hRx⟩ := H7.out.2.1.below hb6
      have e11' : a3.tmps.getD 11 undef = .pointer (some ⟨w5.heap.size, 0, none⟩) := hout 11 (free_of (by kernel_rfl))
      change runFrom _ _ _ 1 9 a3 w6
      simp only [runFrom]
      refine e_store (t := 11) (u := 56) rfl e11' hBx f56 fun an' ln' cn' ad' ld' cd' hR => ?_
      have hn11 := RtO.next hBx (noLimb_rat _ _ _ _ _ _ _) hR
      have hn9 := (H7.out.2.2.1.below hb6).keep (v0 := .bool (decide (SN.num < 0))) (v1 := .slice an' ln' cn') (v2 := .slice ad' ld' cd') hBx (noLimb_rat _ _ _ _ _ _ _) H5.out.2.2.2
      have hnb := below_set3 (below_next' H7.out.2.2.2.2.2.1 hb6) hBx.block.1 (.bool (decide (SN.num < 0))) (.slice an' ln' cn') (.slice ad' ld' cd')
      have HN := Lib.hid (And.intro hn11 (And.intro hn9 hnb))
      generalize (((w6.setCell ⟨w5.heap.size, 0, none⟩ (.bool (decide (SN.num < 0)))).setCell ⟨w5.heap.size, 1, none⟩ (.slice an' ln' cn')).setCell ⟨w5.heap.size, 2, none⟩ (.slice ad' ld' cd')) = w7 at HN ⊢
      have e0 : a3.tmps.getD 0 undef = .slice a n cap := hout 0 (free_of (by kernel_rfl))
      have e1 : a3.tmps.getD 1 undef = .int .i64 x := hout 1 (free_of (by kernel_rfl))
      have e2 : a3.tmps.getD 2 undef = undef := hout 2 (free_of (by kernel_rfl))
      have e3 : a3.tmps.getD 3 undef = undef := hout 3 (free_of (by kernel_rfl))
      have e4 : a3.tmps.getD 4 undef = .bool false := hout 4 (free_of (by kernel_rfl))
      have e5 : a3.tmps.getD 5 undef = .slice va M vc := hout 5 (free_of (by kernel_rfl))
      have e6 : a3.tmps.getD 6 undef = .bool true := hout 6 (free_of (by kernel_rfl))
      have e7 : a3.tmps.getD 7 undef = v2 := hout 7 (free_of (by kernel_rfl))
      have e8 : a3.tmps.getD 8 undef = .bool true := hout 8 (free_of (by kernel_rfl))
      have e9 : a3.tmps.getD 9 undef = .pointer (some ⟨w3.heap.size, 0, none⟩) := hout 9 (free_of (by kernel_rfl))
      have e10 : a3.tmps.getD 10 undef = .bool true := hout 10 (free_of (by kernel_rfl))
      have e11 : a3.tmps.getD 11 undef = .pointer (some ⟨w5.heap.size, 0, none⟩) := hout 11 (free_of (by kernel_rfl))
      have e12 : a3.tmps.getD 12 undef = .int .i64 k := hout 12 (free_of (by kernel_rfl))
      have e13 : a3.tmps.getD 13 undef = .slice a n cap := hout 13 (free_of (by kernel_rfl))
      have e14 : a3.tmps.getD 14 undef = .bool true := hout 14 (free_of (by kernel_rfl))
      have e15 : a3.tmps.getD 15 undef = .bool false := hout 15 (free_of (by kernel_rfl))
      have e16 : a3.tmps.getD 16 undef = .bool false := hout 16 (free_of (by kernel_rfl))
      have e17 : a3.tmps.getD 17 undef = .int .i64 x := hout 17 (free_of (by kernel_rfl))
      have e18 : a3.tmps.getD 18 undef = .bool (decide (x < 0)) := hout 18 (free_of (by kernel_rfl))
      have e19 : a3.tmps.getD 19 undef = .bool (decide (x < 0)) := hout 19 (free_of (by kernel_rfl))
      have e20 : a3.tmps.getD 20 undef = .bool (decide (x < 0)) := hout 20 (free_of (by kernel_rfl))
      have e21 : a3.tmps.getD 21 undef = .int .i64 x := hout 21 (free_of (by kernel_rfl))
      have e22 : a3.tmps.getD 22 undef = .bool (decide (1000 < x)) := hout 22 (free_of (by kernel_rfl))
      have e23 : a3.tmps.getD 23 undef = .bool (decide (x < 0) || decide (1000 < x)) := hout 23 (free_of (by kernel_rfl))
      have e24 : a3.tmps.getD 24 undef = .tuple #[.slice va M vc, .bool true] := hout 24 (free_of (by kernel_rfl))
      have e25 : a3.tmps.getD 25 undef = .slice a n cap := hout 25 (free_of (by kernel_rfl))
      have e26 : a3.tmps.getD 26 undef = .tuple #[.slice va M vc, .bool true] := hout 26 (free_of (by kernel_rfl))
      have e27 : a3.tmps.getD 27 undef = .slice va M vc := hout 27 (free_of (by kernel_rfl))
      have e28 : a3.tmps.getD 28 undef = .bool true := hout 28 (free_of (by kernel_rfl))
      have e29 : a3.tmps.getD 29 undef = .tuple #[v2, .bool true] := hout 29 (free_of (by kernel_rfl))
      have e30 : a3.tmps.getD 30 undef = .slice va M vc := hout 30 (free_of (by kernel_rfl))
      have e31 : a3.tmps.getD 31 undef = .tuple #[v2, .bool true] := hout 31 (free_of (by kernel_rfl))
      have e32 : a3.tmps.getD 32 undef = v2 := hout 32 (free_of (by kernel_rfl))
      have e33 : a3.tmps.getD 33 undef = .bool true := hout 33 (free_of (by kernel_rfl))
      have e34 : a3.tmps.getD 34 undef = .tuple #[.agg #[.bool s3, .slice j1 j2 j3, .slice j4 j5 j6], .bool true] := hout 34 (free_of (by kernel_rfl))
      have e35 : a3.tmps.getD 35 undef = .slice a n cap := hout 35 (free_of (by kernel_rfl))
      have e36 : a3.tmps.getD 36 undef = .int .i64 x := hout 36 (free_of (by kernel_rfl))
      have e37 : a3.tmps.getD 37 undef = .tuple #[.agg #[.bool s3, .slice j1 j2 j3, .slice j4 j5 j6], .bool true] := hout 37 (free_of (by kernel_rfl))
      have e38 : a3.tmps.getD 38 undef = .agg #[.bool s3, .slice j1 j2 j3, .slice j4 j5 j6] := hout 38 (free_of (by kernel_rfl))
      have e39 : a3.tmps.getD 39 undef = .bool true := hout 39 (free_of (by kernel_rfl))
      have e40 : a3.tmps.getD 40 undef = .agg #[.bool sa, .slice p1 p2 p3, .slice p4 p5 p6] := hout 40 (free_of (by kernel_rfl))
      have e41 : a3.tmps.getD 41 undef = .slice va M vc := hout 41 (free_of (by kernel_rfl))
      have e42 : a3.tmps.getD 42 undef = .int .i64 M := hout 42 (free_of (by kernel_rfl))
      have e43 : a3.tmps.getD 43 undef = .int .i64 ((M : Int) - 1) := hout 43 (free_of (by kernel_rfl))
      have e57 : a3.tmps.getD 57 undef = undef := hout 57 (free_of (by kernel_rfl))
      have e58 : a3.tmps.getD 58 undef = undef := hout 58 (free_of (by kernel_rfl))
      have e59 : a3.tmps.getD 59 undef = undef := hout 59 (free_of (by kernel_rfl))
      have e60 : a3.tmps.getD 60 undef = undef := hout 60 (free_of (by kernel_rfl))
      have e61 : a3.tmps.getD 61 undef = undef := hout 61 (free_of (by kernel_rfl))
      have e62 : a3.tmps.getD 62 undef = undef := hout 62 (free_of (by kernel_rfl))
      have e63 : a3.tmps.getD 63 undef = undef := hout 63 (free_of (by kernel_rfl))
      have e64 : a3.tmps.getD 64 undef = undef := hout 64 (free_of (by kernel_rfl))
      have e65 : a3.tmps.getD 65 undef = undef := hout 65 (free_of (by kernel_rfl))
      have e66 : a3.tmps.getD 66 undef = undef := hout 66 (free_of (by kernel_rfl))
      have e67 : a3.tmps.getD 67 undef = undef := hout 67 (free_of (by kernel_rfl))
      have e68 : a3.tmps.getD 68 undef = undef := hout 68 (free_of (by kernel_rfl))
      have e69 : a3.tmps.getD 69 undef = undef := hout 69 (free_of (by kernel_rfl))
      have e70 : a3.tmps.getD 70 undef = undef := hout 70 (free_of (by kernel_rfl))
      have e71 : a3.tmps.getD 71 undef = undef := hout 71 (free_of (by kernel_rfl))
      have e72 : a3.tmps.getD 72 undef = undef := hout 72 (free_of (by kernel_rfl))
      have e73 : a3.tmps.getD 73 undef = undef := hout 73 (free_of (by kernel_rfl))
      have e74 : a3.tmps.getD 74 undef = undef := hout 74 (free_of (by kernel_rfl))
      have e75 : a3.tmps.getD 75 undef = undef := hout 75 (free_of (by kernel_rfl))
      have e76 : a3.tmps.getD 76 undef = undef := hout 76 (free_of (by kernel_rfl))
      have e77 : a3.tmps.getD 77 undef = undef := hout 77 (free_of (by kernel_rfl))
      obtain ⟨va9, hu⟩ : ∃ u : Nat → Value, ∀ t, a3.tmps.getD t undef = u t := ⟨_, fun _ => rfl⟩
      have ha := act_eq a3 78 hszn hdfn
      simp only [hu] at ha e0 e1 e2 e3 e4 e5 e6 e7 e8 e9 e10 e11 e12 e13 e14 e15 e16 e17 e18 e19 e20 e21 e22 e23 e24 e25 e26 e27 e28 e29 e30 e31 e32 e33 e34 e35 e36 e37 e38 e39 e40 e41 e42 e43 e57 e58 e59 e60 e61 e62 e63 e64 e65 e66 e67 e68 e69 e70 e71 e72 e73 e74 e75 e76 e77
      have ha' : a3 = ⟨#[va9 0, va9 1, va9 2, va9 3, va9 4, va9 5, va9 6, va9 7, va9 8, va9 9, va9 10, va9 11, va9 12, va9 13, va9 14, va9 15, va9 16, va9 17, va9 18, va9 19, va9 20, va9 21, va9 22, va9 23, va9 24, va9 25, va9 26, va9 27, va9 28, va9 29, va9 30, va9 31, va9 32, va9 33, va9 34, va9 35, va9 36, va9 37, va9 38, va9 39, va9 40, va9 41, va9 42, va9 43, va9 44, va9 45, va9 46, va9 47, va9 48, va9 49, va9 50, va9 51, va9 52, va9 53, va9 54, va9 55, va9 56, va9 57, va9 58, va9 59, va9 60, va9 61, va9 62, va9 63, va9 64, va9 65, va9 66, va9 67, va9 68, va9 69, va9 70, va9 71, va9 72, va9 73, va9 74, va9 75, va9 76, va9 77], []⟩ := ha
      rw [e0, e1, e2, e3, e4, e5, e6, e7, e8, e9, e10, e11, e12, e13, e14, e15, e16, e17, e18, e19, e20, e21, e22, e23, e24, e25, e26, e27, e28, e29, e30, e31, e32, e33, e34, e35, e36, e37, e38, e39, e40, e41, e42, e43, e57, e58, e59, e60, e61, e62, e63, e64, e65, e66, e67, e68, e69, e70, e71, e72, e73, e74, e75, e76, e77] at ha'
      clear ha hu e0 e1 e2 e3 e4 e5 e6 e7 e8 e9 e10 e11 e12 e13 e14 e15 e16 e17 e18 e19 e20 e21 e22 e23 e24 e25 e26 e27 e28 e29 e30 e31 e32 e33 e34 e35 e36 e37 e38 e39 e40 e41 e42 e43 e57 e58 e59 e60 e61 e62 e63 e64 e65 e66 e67 e68 e69 e70 e71 e72 e73 e74 e75 e76 e77 hszn hdfn e11' hfacts hout hsz6 hdf6 f56 hb6 hn11 hn9 hnb hBx hRx hR
      subst ha'
      go_wp2
      go_roundw
      case rel => exact ⟨d + 1, by omega, by rw [H7.out.2.2.2.2.2.2.2.2], by rw [H7.out.2.2.2.2.2.2.2.1, H7.out.2.2.2.2.2.2.1]; exact HN.out.1, HN.out.2.1, HN.out.2.2⟩
      case measure => simp [intOf] <;> omega
    · obtain rfl : M = d := by omega
      have hki : ¬ (0 : Int) ≤ (M : Int) - M - 1 := by omega
      rw [Nat.sub_self, HA.out.2.2.1] at h11
      have H7 := Lib.hid (And.intro h11 (And.intro h9 (And.intro hbl (below_next' H3.out.2.2.2.2.1 hbl))))
      clear h11 h9 hbl hdM
      go_wp2_with fail
      refine (canonical_list a n cap 8 f _ (HA.out.2.2.2.2.1.below H7.out.2.2.2) (by omega) (by omega)).mono ?_
      rintro e w6 ⟨v6, rfl, hv6, hb6⟩
      have H8 := Lib.hid (And.intro hv6 (And.intro (H3.out.2.2.1.below (below_next' H7.out.2.2.1 hb6)) hb6))
      clear hv6 hb6
      go_wp2_with fail
      refine (sameRats_any _ _ (trimN f n) 9 f _ H8.out.2.1 H8.out.1 HA.out.2.2.2.2.2.2.1 (by omega)).mono ?_
      rintro e w7 ⟨rfl, hb7⟩
      have hb67 := below_next' H8.out.2.2 hb7
      obtain ⟨l1, l2, l3, l4, l5, l6, hBl, hRl⟩ := H7.out.1.below hb67
      obtain ⟨m1, m2, m3, m4, m5, m6, hBm, hRm⟩ := H7.out.2.1.below hb67
      obtain ⟨⟨k0, k1, k2⟩, _⟩ := hBl.three
      obtain ⟨⟨i0, i1, i2⟩, _⟩ := hBm.three
      obtain ⟨sv, hsv⟩ : ∃ s, decide (V.num < 0) = s := ⟨_, rfl⟩
      rw [hsv] at k0 i0 hRl hRm
      have H9 := Lib.hid (And.intro hRl (And.intro hRm (below_next' (below_next' H3.out.2.2.2.1 H7.out.2.2.1) hb67)))
      clear hb7 hb67 hBl hBm hRl hRm hsv
      go_wp2_with fail
      refine (sameRat_any _ _ V V 400 _ H9.out.1 H9.out.2.1 HA.out.2.2.2.2.2.2.2.1 (by omega)).mono ?_
      rintro e w8 ⟨b', rfl, hb', hb8⟩
      obtain rfl : b' = true := hb'.2 rfl
      have H10 := Lib.hid (below_next' H9.out.2.2 hb8)
      clear hb8 hb' k0 k1 k2 i0 i1 i2
      go_wp2_with fail
      refine (awake2_any _).mono ?_
      rintro e w9 ⟨rfl, hb9⟩
      have H11 := Lib.hid (below_next' H10.out hb9)
      clear hb9
      go_wp2
      go_ret
      exact ⟨rfl, H11.out⟩
end Go.Proofs.Ytdpiclmjdcjajaa
