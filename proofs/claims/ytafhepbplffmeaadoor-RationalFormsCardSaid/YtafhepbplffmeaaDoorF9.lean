/-
  Drawn regions that build a number out of a natural number's limbs and 1, and what each of their operations does.
-/
import Derived.Test.YtafhepbplffmeaaDoorTxt
import Derived.Test.YtafhepbplffmeaaDoorZ1
namespace Go.Proofs.YtafhepbplffmeaaDoor
open Go.RowKit Num

/-- What else a slot holds: the address of a natural number's field, a natural number. -/
inductive Kx where
  | adN (j a : Nat)
  | nt (a : Nat)
  | no

def Kx.holds : Kx → World → Value → Prop
  | .adN j a, w, v => ∃ g x, v = .pointer (some ⟨g, j, none⟩) ∧ w.cell? ⟨g, j, none⟩ = some x ∧ Nt w x a
  | .nt a, w, v => Nt w v a
  | .no, _, _ => True
theorem Kx.below {κ : Kx} {w w' : World} {v : Value} (hb : Below w.heap.size w w') (h : κ.holds w v) : κ.holds w' v := by
  cases κ with
  | adN j a =>
    obtain ⟨g, x, e, c, hn⟩ := h
    exact ⟨g, x, e, cell_below hb c, hn.below hb⟩
  | nt a => exact Nt.below h hb
  | no => trivial

section
variable {κ : Tmp → Kd} {ε : Tmp → Kx} {G : Nat → Option Tmp} {d t u c : Tmp} {ty : TypeId} {pos : String} {es : Array Edge} {N : List Tmp} {B : Nat}
def Fx (κ : Tmp → Kd) (ε : Tmp → Kx) : Tmp → World → Value → Prop := fun t w v => (κ t).holds w v ∧ (ε t).holds w v
theorem Fx.below {t : Tmp} {w w' : World} {v : Value} (hb : Below w.heap.size w w') (h : Fx κ ε t w v) : Fx κ ε t w' v := ⟨Kd.below hb h.1, Kx.below hb h.2⟩
theorem Fx.draw (t : Tmp) (W : World) (v : Value) (h : Fx κ ε t W v) : Fx κ ε t { W with drawn := W.drawn + 1 } v := h.below (Below.refl _ _).drew

theorem fx_lift {o : Oper} (h : FlowStep Tryd.prog (Fk κ) G o) (hε : ∀ d, o.dst = some d → ε d = .no) : FlowStep Tryd.prog (Fx κ ε) G o := by
  intro a w Q hf
  obtain ⟨h1, h2⟩ := h a w Q fun t ht => (hf t ht).1
  refine ⟨fun hw => Oper.wp_mono ?_ (h1 hw), fun hw d hd => ⟨h2 hw d hd, by rw [hε d hd]; trivial⟩⟩
  rintro a' w' ⟨v, rfl, hb, hd⟩
  exact ⟨v, rfl, hb, fun d' hd' => ⟨hd d' hd', by rw [hε d' hd']; trivial⟩⟩
theorem fxN_lift {o : Oper} (h : FlowStepN Tryd.prog (Fk κ) G N B o) (hε : ∀ d, o.dst = some d → ε d = .no) : FlowStepN Tryd.prog (Fx κ ε) G N B o := by
  intro a w Q hB hf
  obtain ⟨h1, h2⟩ := h a w Q hB fun t ht => (hf t ht).1
  refine ⟨fun hw => Oper.wp_mono ?_ (h1 hw), fun hw d hd => ⟨⟨(h2 hw d hd).1, by rw [hε d hd]; trivial⟩, (h2 hw d hd).2⟩⟩
  rintro a' w' ⟨v, rfl, hb, hd⟩
  exact ⟨v, rfl, hb, fun d' hd' => ⟨⟨(hd d' hd').1, by rw [hε d' hd']; trivial⟩, (hd d' hd').2⟩⟩
theorem fx_guard : GuardYes (Fx κ ε) G none := trivial

theorem run_field1 (a : Act) (d : Option Tmp) (ty : TypeId) (pos : String) (es : Array Edge) (w : World) (t : Tmp) (g : Nat) (h : a.tmps.getD t undef = .pointer (some ⟨g, 0, none⟩)) :
    Sem.run Tryd.prog (execOp a.eval ⟨d, .fieldAddr 24 (.tmp t) 1, ty, pos, es, none⟩) w = .ok (.value (.pointer (some ⟨g, 1, none⟩))) w := by go_simp
theorem run_field2 (a : Act) (d : Option Tmp) (ty : TypeId) (pos : String) (es : Array Edge) (w : World) (t : Tmp) (g : Nat) (h : a.tmps.getD t undef = .pointer (some ⟨g, 0, none⟩)) :
    Sem.run Tryd.prog (execOp a.eval ⟨d, .fieldAddr 24 (.tmp t) 2, ty, pos, es, none⟩) w = .ok (.value (.pointer (some ⟨g, 2, none⟩))) w := by go_simp
theorem runx_load22 (a : Act) (d : Option Tmp) (ty : TypeId) (pos : String) (es : Array Edge) (w : World) (t : Tmp) (g j : Nat) (x : Value) (h : a.tmps.getD t undef = .pointer (some ⟨g, j, none⟩)) (hc : w.cell? ⟨g, j, none⟩ = some x) :
    Sem.run Tryd.prog (execOp a.eval ⟨d, .load 22 (.tmp t), ty, pos, es, none⟩) w = .ok (.value x) w := by go_simp
theorem run_one (a : Act) (d : Option Tmp) (ty : TypeId) (pos : String) (es : Array Edge) (w : World) :
    Sem.run Tryd.prog (execOp a.eval ⟨d, .buildSlice 22 1 #[(0, .const (.int .u32 1))], ty, pos, es, none⟩) w = .ok (.value (.slice (some ⟨w.heap.size, 0, none⟩) 1 1)) (w.alloc (.cells #[.int .u32 1] 32)) := by go_simp
theorem run_build24 (a : Act) (d : Option Tmp) (ty : TypeId) (pos : String) (es : Array Edge) (w : World) (t u : Tmp) (a1 b1 : Option Addr) (a2 a3 b2 b3 : Nat) (hx : a.tmps.getD t undef = .slice a1 a2 a3) (hy : a.tmps.getD u undef = .slice b1 b2 b3) :
    Sem.run Tryd.prog (execOp a.eval ⟨d, .build 24 #[(1, .tmp t), (2, .tmp u)], ty, pos, es, none⟩) w = .ok (.value (.agg #[.bool false, .slice a1 a2 a3, .slice b1 b2 b3])) w := by
  rw [Array.getD_eq_getD_getElem?] at hx hy
  go_simp
theorem run_fromInt (a : Act) (d : Option Tmp) (ty : TypeId) (pos : String) (es : Array Edge) (w : World) (t : Tmp) :
    Sem.run Tryd.prog (execOp a.eval ⟨d, .call ⟨.value (.func 15), #[.tmp t], #[2]⟩, ty, pos, es, none⟩) w = .ok (.enter 15 #[a.tmps.getD t undef]) w := by go_simp

set_option maxRecDepth 100000 in
theorem fx_field {k j : Nat} {q : Rat} (hj : j = 1 ∨ j = 2) (ht : κ t = .boxC k q) (hd : κ d = .any) (he : ε d = .adN j (if j = 1 then q.num.natAbs else q.den)) :
    FlowStep Tryd.prog (Fx κ ε) G ⟨some d, .fieldAddr 24 (.tmp t) j, ty, pos, es, none⟩ := by
  refine step_yes fx_guard fun a w Q hf => ?_
  have h := (hf t (by simp [Op.operands])).1
  rw [ht] at h
  obtain ⟨b, x0, x1, x2, e, c0, c1, c2, ⟨an, ln, cn, ad, ld, cd, hv, hn, hd2⟩, hs⟩ := h
  simp only [Value.agg.injEq, Array.mk.injEq, List.cons.injEq, and_true] at hv
  obtain ⟨rfl, rfl, rfl⟩ := hv
  unfold Oper.wp
  rcases hj with rfl | rfl
  · rw [run_field1 _ _ _ _ _ _ _ b e, Oper.upon_value]
    exact ⟨_, rfl, Below.refl _ _, fun d' hd' => by cases hd'; exact ⟨by rw [hd]; trivial, by rw [he]; exact ⟨b, _, rfl, c1, hn⟩⟩⟩
  · rw [run_field2 _ _ _ _ _ _ _ b e, Oper.upon_value]
    exact ⟨_, rfl, Below.refl _ _, fun d' hd' => by cases hd'; exact ⟨by rw [hd]; trivial, by rw [he]; exact ⟨b, _, rfl, c2, hd2⟩⟩⟩
theorem fx_load {j a : Nat} (ht : ε t = .adN j a) (hd : κ d = .any) (he : ε d = .nt a) : FlowStep Tryd.prog (Fx κ ε) G ⟨some d, .load 22 (.tmp t), ty, pos, es, none⟩ := by
  refine step_yes fx_guard fun ac w Q hf => ?_
  have h := (hf t (by simp [Op.operands])).2
  rw [ht] at h
  obtain ⟨g, x, e, c, hn⟩ := h
  unfold Oper.wp
  rw [runx_load22 _ _ _ _ _ _ _ g j x e c, Oper.upon_value]
  exact ⟨_, rfl, Below.refl _ _, fun d' hd' => by cases hd'; exact ⟨by rw [hd]; trivial, by rw [he]; exact hn⟩⟩
theorem fx_one (hd : κ d = .any) (he : ε d = .nt 1) : FlowStep Tryd.prog (Fx κ ε) G ⟨some d, .buildSlice 22 1 #[(0, .const (.int .u32 1))], ty, pos, es, none⟩ := by
  refine step_yes fx_guard fun ac w Q _ => ?_
  unfold Oper.wp
  rw [run_one, Oper.upon_value]
  exact ⟨_, rfl, below_alloc1 _ _, fun d' hd' => by cases hd'; exact ⟨by rw [hd]; trivial, by rw [he]; exact lim_one (cell_one_new w _ _ 0 _ rfl)⟩⟩
set_option maxRecDepth 100000 in
theorem fx_build {K a : Nat} (ht : ε t = .nt a) (hu : ε u = .nt 1) (hd : κ d = .rat K (rat false a 1)) (he : ε d = .no) (ha : a < pw K) (hK : 1 ≤ K) :
    FlowStep Tryd.prog (Fx κ ε) G ⟨some d, .build 24 #[(1, .tmp t), (2, .tmp u)], ty, pos, es, none⟩ := by
  refine step_yes fx_guard fun ac w Q hf => ?_
  have h1 := (hf t (by simp [Op.operands])).2
  have h2 := (hf u (by simp [Op.operands])).2
  rw [ht] at h1
  rw [hu] at h2
  have h1 : Nt w (ac.tmps.getD t undef) a := h1
  have h2 : Nt w (ac.tmps.getD u undef) 1 := h2
  obtain ⟨a1, a2, a3, e1⟩ := h1.shape
  obtain ⟨b1, b2, b3, e2⟩ := h2.shape
  rw [e1] at h1
  rw [e2] at h2
  unfold Oper.wp
  rw [run_build24 _ _ _ _ _ _ _ _ a1 b1 a2 a3 b2 b3 e1 e2, Oper.upon_value]
  refine ⟨_, rfl, Below.refl _ _, fun d' hd' => ?_⟩
  cases hd'
  refine ⟨?_, by rw [he]; trivial⟩
  rw [hd]
  obtain ⟨l1, hl1, hc1, hv1⟩ := h1
  obtain ⟨l2, hl2, hc2, hv2⟩ := h2
  have n1 : l1.length = a2 := by
    obtain ⟨_, _, e, _⟩ := hl1
    simp only [Value.slice.injEq] at e
    exact e.2.1.symm
  have n2 : l2.length = b2 := by
    obtain ⟨_, _, e, _⟩ := hl2
    simp only [Value.slice.injEq] at e
    exact e.2.1.symm
  subst n1
  subst n2
  have hone : 1 < pw K := Nat.lt_of_lt_of_le (by decide : 1 < pw 1) (pw_le hK)
  exact ⟨⟨false, a1, a3, b1, b3, l1, l2, rfl, hl1, hl2, cano_len hc1 (by rw [hv1]; exact ha), cano_len hc2 (by rw [hv2]; exact hone), by rw [hv1, hv2]⟩, sz_rat ha hone hK⟩
theorem fl_conv {f : Nat} (hg : GuardYes (Fk κ) G none) (ht : κ t = .val (.int .u32 f)) (hd : κ d = .val (.int .i64 f)) (hf : f ≤ 1000) : FlowStep Tryd.prog (Fk κ) G ⟨some d, .convert 32 2 (.tmp t), ty, pos, es, none⟩ :=
  fl_un hg (by simp [Op.operands]) ht hd fun a w h => by
    go_simp
    rw [IntKind.wrap_i64]
    omega
theorem fl_fromIntT {n : Int} (ht : κ t = .val (.int .i64 n)) (hd : κ d = .ratC 1 (quo n 1)) (h1 : -9223372036854775808 ≤ n) (h2 : n ≤ 9223372036854775807) (hs : Sz (quo n 1) 1) :
    FlowStep Tryd.prog (Fk κ) G ⟨some d, .call ⟨.value (.func 15), #[.tmp t], #[2]⟩, ty, pos, es, none⟩ := by
  refine step_yes guard_none fun a w Q hf => ?_
  have h := hf t (by simp [Op.operands, Call.operands])
  unfold Fk at h
  rw [ht] at h
  have h : a.tmps.getD t undef = .int .i64 n := h
  unfold Oper.wp
  rw [run_fromInt, h, Oper.upon_enter]
  refine (fromInt_any n w h1 h2).mono ?_
  rintro e w' ⟨v, rfl, hv, hb⟩
  exact ⟨v, rfl, hb, fun d' hd' => by cases hd'; unfold Fk; rw [hd]; exact ⟨hv, hs⟩⟩
end
end Go.Proofs.YtafhepbplffmeaaDoor
