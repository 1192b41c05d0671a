/-
  What is known of a slot in a law over api.Rat, and what each operation of such a region does.
-/
import Derived.Test.YtdpiclmjdcjajaaFlow
import Derived.Test.YtdpiclmjdcjajaaR11
namespace Go.Proofs.Ytdpiclmjdcjajaa
open Go.RowKit Num

/-- What a slot holds. -/
inductive Kd where
  | box (k : Nat) (q : Rat)
  | boxC (k : Nat) (q : Rat)
  | rat (k : Nat) (q : Rat)
  | ratC (k : Nat) (q : Rat)
  | val (v : Value)
  | new (B : Nat)
  | any

def Kd.holds : Kd → World → Value → Prop
  | .box k q, w, v => ∃ g x0 x1 x2, v = .pointer (some ⟨g, 0, none⟩) ∧ w.cell? ⟨g, 0, none⟩ = some x0 ∧ w.cell? ⟨g, 1, none⟩ = some x1 ∧ w.cell? ⟨g, 2, none⟩ = some x2 ∧ RatA w (.agg #[x0, x1, x2]) k q ∧ Sz q k
  | .boxC k q, w, v => ∃ g x0 x1 x2, v = .pointer (some ⟨g, 0, none⟩) ∧ w.cell? ⟨g, 0, none⟩ = some x0 ∧ w.cell? ⟨g, 1, none⟩ = some x1 ∧ w.cell? ⟨g, 2, none⟩ = some x2 ∧ RatC w (.agg #[x0, x1, x2]) q ∧ Sz q k
  | .rat k q, w, v => RatA w v k q ∧ Sz q k
  | .ratC k q, w, v => RatC w v q ∧ Sz q k
  | .val u, _, v => v = u
  | .new B, w, v => ∃ g, v = .pointer (some ⟨g, 0, none⟩) ∧ BoxV w B g 24 [.bool false, .slice none 0 0, .slice none 0 0]
  | .any, _, _ => True

theorem cell_below {w w' : World} {a : Addr} {v : Value} (hb : Below w.heap.size w w') (h : w.cell? a = some v) : w'.cell? a = some v :=
  (hb.cell (World.block_lt_of_cell? w _ h)).trans h

theorem Kd.below {κ : Kd} {w w' : World} {v : Value} (hb : Below w.heap.size w w') (h : κ.holds w v) : κ.holds w' v := by
  cases κ with
  | box k q =>
    obtain ⟨g, x0, x1, x2, e, c0, c1, c2, hr, hs⟩ := h
    exact ⟨g, x0, x1, x2, e, cell_below hb c0, cell_below hb c1, cell_below hb c2, hr.below hb, hs⟩
  | boxC k q =>
    obtain ⟨g, x0, x1, x2, e, c0, c1, c2, hr, hs⟩ := h
    exact ⟨g, x0, x1, x2, e, cell_below hb c0, cell_below hb c1, cell_below hb c2, hr.below hb, hs⟩
  | rat k q => exact ⟨h.1.below hb, h.2⟩
  | ratC k q => exact ⟨h.1.below hb, h.2⟩
  | val u => exact h
  | new B =>
    obtain ⟨g, e, hx⟩ := h
    exact ⟨g, e, hx.below hb⟩
  | any => trivial

theorem Kd.draw (κ : Kd) (W : World) (v : Value) (h : κ.holds W v) : κ.holds { W with drawn := W.drawn + 1 } v := Kd.below (κ := κ) (Below.refl _ _).drew h

theorem RatA.le {w : World} {v : Value} {k m : Nat} {q : Rat} (h : RatA w v k q) (hm : k ≤ m) : RatA w v m q := by
  obtain ⟨neg, an, cn, ad, cd, l1, l2, e, h1, h2, k1, k2, hq⟩ := h
  exact ⟨neg, an, cn, ad, cd, l1, l2, e, h1, h2, Nat.le_trans k1 hm, Nat.le_trans k2 hm, hq⟩

/-- A number, in whatever form. -/
def Kd.isRat (κ : Kd) (k : Nat) (q : Rat) : Prop := κ = .rat k q ∨ κ = .ratC k q
theorem Kd.isRat.a {κ : Kd} {k : Nat} {q : Rat} (h : κ.isRat k q) {w : World} {v : Value} (hv : κ.holds w v) {m : Nat} (hm : k ≤ m) : RatA w v m q := by
  rcases h with rfl | rfl
  · exact hv.1.le hm
  · exact (hv.1.a hv.2).le hm
theorem Kd.isRat.sz {κ : Kd} {k : Nat} {q : Rat} (h : κ.isRat k q) {w : World} {v : Value} (hv : κ.holds w v) : Sz q k := by
  rcases h with rfl | rfl
  · exact hv.2
  · exact hv.2

theorem c2_35 (a : Act) (d : Option Tmp) (ty : TypeId) (pos : String) (es : Array Edge) (g : Option (Nat × Bool)) (t u : Tmp) (w : World) :
    Sem.run Try.prog (execOp a.eval ⟨d, .call ⟨.value (.func 70), #[.tmp t, .tmp u], #[24, 24]⟩, ty, pos, es, g⟩) w = .ok (.enter 70 #[a.tmps.getD t undef, a.tmps.getD u undef]) w := by go_simp
theorem c2_41 (a : Act) (d : Option Tmp) (ty : TypeId) (pos : String) (es : Array Edge) (g : Option (Nat × Bool)) (t u : Tmp) (w : World) :
    Sem.run Try.prog (execOp a.eval ⟨d, .call ⟨.value (.func 73), #[.tmp t, .tmp u], #[24, 24]⟩, ty, pos, es, g⟩) w = .ok (.enter 73 #[a.tmps.getD t undef, a.tmps.getD u undef]) w := by go_simp
theorem c2_37 (a : Act) (d : Option Tmp) (ty : TypeId) (pos : String) (es : Array Edge) (g : Option (Nat × Bool)) (t u : Tmp) (w : World) :
    Sem.run Try.prog (execOp a.eval ⟨d, .call ⟨.value (.func 85), #[.tmp t, .tmp u], #[24, 24]⟩, ty, pos, es, g⟩) w = .ok (.enter 85 #[a.tmps.getD t undef, a.tmps.getD u undef]) w := by go_simp
theorem c2_39 (a : Act) (d : Option Tmp) (ty : TypeId) (pos : String) (es : Array Edge) (g : Option (Nat × Bool)) (t u : Tmp) (w : World) :
    Sem.run Try.prog (execOp a.eval ⟨d, .call ⟨.value (.func 116), #[.tmp t, .tmp u], #[24, 24]⟩, ty, pos, es, g⟩) w = .ok (.enter 116 #[a.tmps.getD t undef, a.tmps.getD u undef]) w := by go_simp
theorem c2_18 (a : Act) (d : Option Tmp) (ty : TypeId) (pos : String) (es : Array Edge) (g : Option (Nat × Bool)) (t u : Tmp) (w : World) :
    Sem.run Try.prog (execOp a.eval ⟨d, .call ⟨.value (.func 19), #[.tmp t, .tmp u], #[24, 24]⟩, ty, pos, es, g⟩) w = .ok (.enter 19 #[a.tmps.getD t undef, a.tmps.getD u undef]) w := by go_simp
theorem c1_23 (a : Act) (d : Option Tmp) (ty : TypeId) (pos : String) (es : Array Edge) (g : Option (Nat × Bool)) (t : Tmp) (w : World) :
    Sem.run Try.prog (execOp a.eval ⟨d, .call ⟨.value (.func 64), #[.tmp t], #[24]⟩, ty, pos, es, g⟩) w = .ok (.enter 64 #[a.tmps.getD t undef]) w := by go_simp
theorem c1_27 (a : Act) (d : Option Tmp) (ty : TypeId) (pos : String) (es : Array Edge) (g : Option (Nat × Bool)) (t : Tmp) (w : World) :
    Sem.run Try.prog (execOp a.eval ⟨d, .call ⟨.value (.func 106), #[.tmp t], #[24]⟩, ty, pos, es, g⟩) w = .ok (.enter 106 #[a.tmps.getD t undef]) w := by go_simp
theorem c1_14 (a : Act) (d : Option Tmp) (ty : TypeId) (pos : String) (es : Array Edge) (g : Option (Nat × Bool)) (t : Tmp) (w : World) :
    Sem.run Try.prog (execOp a.eval ⟨d, .call ⟨.value (.func 60), #[.tmp t], #[24]⟩, ty, pos, es, g⟩) w = .ok (.enter 60 #[a.tmps.getD t undef]) w := by go_simp
theorem c0_22 (a : Act) (d : Option Tmp) (ty : TypeId) (pos : String) (es : Array Edge) (g : Option (Nat × Bool)) (w : World) :
    Sem.run Try.prog (execOp a.eval ⟨d, .call ⟨.value (.func 20), #[], #[]⟩, ty, pos, es, g⟩) w = .ok (.enter 20 #[]) w := by go_simp

theorem run_load24 (a : Act) (d : Option Tmp) (ty : TypeId) (pos : String) (es : Array Edge) (gd : Option (Nat × Bool)) (w : World) (t : Tmp) (g : Nat) (x y z : Value)
    (ht : a.tmps.getD t undef = .pointer (some ⟨g, 0, none⟩)) (h0 : w.cell? ⟨g, 0, none⟩ = some x) (h1 : w.cell? ⟨g, 1, none⟩ = some y) (h2 : w.cell? ⟨g, 2, none⟩ = some z) :
    Sem.run Try.prog (execOp a.eval ⟨d, .load 24 (.tmp t), ty, pos, es, gd⟩) w = .ok (.value (.agg #[x, y, z])) w := by
  go_simp

section
variable {κ : Tmp → Kd} {G : Nat → Option Tmp} {d t u c : Tmp} {ty : TypeId} {pos : String} {es : Array Edge} {g : Option (Nat × Bool)}

/-- The facts on the slots. -/
def Fk (κ : Tmp → Kd) : Tmp → World → Value → Prop := fun t => (κ t).holds

theorem guard_true {j : Nat} {s : Tmp} {b : Bool} (hG : G j = some s) (hk : κ s = .val (.bool b)) : GuardYes (Fk κ) G (some (j, b)) :=
  ⟨s, hG, fun w v h => by unfold Fk at h; rw [hk] at h; exact h⟩
theorem guard_none : GuardYes (Fk κ) G none := trivial

theorem fl_call2 {f : FuncId} (hrun : ∀ (a : Act) (w : World), Sem.run Try.prog (execOp a.eval ⟨some d, .call ⟨.value (.func f), #[.tmp t, .tmp u], #[24, 24]⟩, ty, pos, es, g⟩) w = .ok (.enter f #[a.tmps.getD t undef, a.tmps.getD u undef]) w)
    (hg : GuardYes (Fk κ) G g) (hc : ∀ w x y, (κ t).holds w x → (κ u).holds w y → Calls Try.prog f #[x, y] w (fun e w' => ∃ r, e = .returned r ∧ (κ d).holds w' r ∧ Below w.heap.size w w')) :
    FlowStep Try.prog (Fk κ) G ⟨some d, .call ⟨.value (.func f), #[.tmp t, .tmp u], #[24, 24]⟩, ty, pos, es, g⟩ := by
  refine step_yes hg fun a w Q hf => ?_
  unfold Oper.wp
  rw [hrun, Oper.upon_enter]
  refine (hc w _ _ (hf t (by simp [Op.operands, Call.operands])) (hf u (by simp [Op.operands, Call.operands]))).mono ?_
  rintro e w' ⟨r, rfl, hr, hb⟩
  exact ⟨r, rfl, hb, fun d' hd' => by cases hd'; exact hr⟩

theorem fl_call1 {f : FuncId} (hrun : ∀ (a : Act) (w : World), Sem.run Try.prog (execOp a.eval ⟨some d, .call ⟨.value (.func f), #[.tmp t], #[24]⟩, ty, pos, es, g⟩) w = .ok (.enter f #[a.tmps.getD t undef]) w)
    (hg : GuardYes (Fk κ) G g) (hc : ∀ w x, (κ t).holds w x → Calls Try.prog f #[x] w (fun e w' => ∃ r, e = .returned r ∧ (κ d).holds w' r ∧ Below w.heap.size w w')) :
    FlowStep Try.prog (Fk κ) G ⟨some d, .call ⟨.value (.func f), #[.tmp t], #[24]⟩, ty, pos, es, g⟩ := by
  refine step_yes hg fun a w Q hf => ?_
  unfold Oper.wp
  rw [hrun, Oper.upon_enter]
  refine (hc w _ (hf t (by simp [Op.operands, Call.operands]))).mono ?_
  rintro e w' ⟨r, rfl, hr, hb⟩
  exact ⟨r, rfl, hb, fun d' hd' => by cases hd'; exact hr⟩

theorem fl_awake (hg : GuardYes (Fk κ) G g) (hd : κ d = .val (.bool true)) :
    FlowStep Try.prog (Fk κ) G ⟨some d, .call ⟨.value (.func 20), #[], #[]⟩, ty, pos, es, g⟩ := by
  refine step_yes hg fun a w Q _ => ?_
  unfold Oper.wp
  rw [c0_22, Oper.upon_enter]
  refine (awake_any w).mono ?_
  rintro e w' ⟨rfl, hb⟩
  exact ⟨_, rfl, hb, fun d' hd' => by cases hd'; unfold Fk; rw [hd]; rfl⟩

theorem fl_load {k : Nat} {q : Rat} (hg : GuardYes (Fk κ) G g) (ht : κ t = .box k q) (hd : κ d = .rat k q) : FlowStep Try.prog (Fk κ) G ⟨some d, .load 24 (.tmp t), ty, pos, es, g⟩ := by
  refine step_yes hg fun a w Q hf => ?_
  have h := hf t (by simp [Op.operands])
  unfold Fk at h
  rw [ht] at h
  obtain ⟨b, x0, x1, x2, e, c0, c1, c2, hr, hs⟩ := h
  unfold Oper.wp
  rw [run_load24 _ _ _ _ _ _ _ _ b x0 x1 x2 e c0 c1 c2, Oper.upon_value]
  exact ⟨_, rfl, Below.refl _ _, fun d' hd' => by cases hd'; unfold Fk; rw [hd]; exact ⟨hr, hs⟩⟩

theorem fl_loadC {k : Nat} {q : Rat} (hg : GuardYes (Fk κ) G g) (ht : κ t = .boxC k q) (hd : κ d = .ratC k q) : FlowStep Try.prog (Fk κ) G ⟨some d, .load 24 (.tmp t), ty, pos, es, g⟩ := by
  refine step_yes hg fun a w Q hf => ?_
  have h := hf t (by simp [Op.operands])
  unfold Fk at h
  rw [ht] at h
  obtain ⟨b, x0, x1, x2, e, c0, c1, c2, hr, hs⟩ := h
  unfold Oper.wp
  rw [run_load24 _ _ _ _ _ _ _ _ b x0 x1 x2 e c0 c1 c2, Oper.upon_value]
  exact ⟨_, rfl, Below.refl _ _, fun d' hd' => by cases hd'; unfold Fk; rw [hd]; exact ⟨hr, hs⟩⟩

theorem fl_move (hg : GuardYes (Fk κ) G g) (hd : κ d = κ t) : FlowStep Try.prog (Fk κ) G ⟨some d, .move (.tmp t), ty, pos, es, g⟩ := by
  refine step_yes hg fun a w Q hf => ?_
  have h := hf t (by simp [Op.operands])
  unfold Oper.wp
  have hr : Sem.run Try.prog (execOp a.eval ⟨some d, .move (.tmp t), ty, pos, es, g⟩) w = .ok (.value (a.tmps.getD t undef)) w := by go_simp
  rw [hr, Oper.upon_value]
  exact ⟨_, rfl, Below.refl _ _, fun d' hd' => by cases hd'; unfold Fk at h ⊢; rw [hd]; exact h⟩
theorem fl_assign (hg : GuardYes (Fk κ) G g) (hd : κ d = κ t) : FlowStep Try.prog (Fk κ) G ⟨some d, .assign (.tmp t), ty, pos, es, g⟩ := by
  refine step_yes hg fun a w Q hf => ?_
  have h := hf t (by simp [Op.operands])
  unfold Oper.wp
  have hr : Sem.run Try.prog (execOp a.eval ⟨some d, .assign (.tmp t), ty, pos, es, g⟩) w = .ok (.value (a.tmps.getD t undef)) w := by go_simp
  rw [hr, Oper.upon_value]
  exact ⟨_, rfl, Below.refl _ _, fun d' hd' => by cases hd'; unfold Fk at h ⊢; rw [hd]; exact h⟩

/-- An operation that only reckons, with one slot. -/
theorem fl_un {op : Op} {x y : Value} (hg : GuardYes (Fk κ) G g) (hm : .tmp t ∈ op.operands.toList) (ht : κ t = .val x) (hd : κ d = .val y)
    (hrun : ∀ (a : Act) (w : World), a.tmps.getD t undef = x → Sem.run Try.prog (execOp a.eval ⟨some d, op, ty, pos, es, g⟩) w = .ok (.value y) w) : FlowStep Try.prog (Fk κ) G ⟨some d, op, ty, pos, es, g⟩ := by
  refine step_yes hg fun a w Q hf => ?_
  have h := hf t hm
  unfold Fk at h
  rw [ht] at h
  unfold Oper.wp
  rw [hrun a w h, Oper.upon_value]
  exact ⟨_, rfl, Below.refl _ _, fun d' hd' => by cases hd'; unfold Fk; rw [hd]; rfl⟩
/-- .. with two. -/
theorem fl_bi {op : Op} {x x' y : Value} (hg : GuardYes (Fk κ) G g) (hm : .tmp t ∈ op.operands.toList) (hm' : .tmp u ∈ op.operands.toList) (ht : κ t = .val x) (hu : κ u = .val x') (hd : κ d = .val y)
    (hrun : ∀ (a : Act) (w : World), a.tmps.getD t undef = x → a.tmps.getD u undef = x' → Sem.run Try.prog (execOp a.eval ⟨some d, op, ty, pos, es, g⟩) w = .ok (.value y) w) : FlowStep Try.prog (Fk κ) G ⟨some d, op, ty, pos, es, g⟩ := by
  refine step_yes hg fun a w Q hf => ?_
  have h := hf t hm
  have h' := hf u hm'
  unfold Fk at h h'
  rw [ht] at h
  rw [hu] at h'
  unfold Oper.wp
  rw [hrun a w h h', Oper.upon_value]
  exact ⟨_, rfl, Below.refl _ _, fun d' hd' => by cases hd'; unfold Fk; rw [hd]; rfl⟩

theorem fl_not {b : Bool} (hg : GuardYes (Fk κ) G g) (ht : κ t = .val (.bool b)) (hd : κ d = .val (.bool (!b))) : FlowStep Try.prog (Fk κ) G ⟨some d, .unOp .not 4 (.tmp t), ty, pos, es, g⟩ :=
  fl_un hg (by simp [Op.operands]) ht hd fun a w h => by go_simp

/-- 'a && b', where a holds: as b. -/
theorem fl_and {x : Value} (hg : GuardYes (Fk κ) G g) (hc : κ c = .val (.bool true)) (hd : κ d = κ t) : FlowStep Try.prog (Fk κ) G ⟨some d, .pick (.tmp c) (.tmp t) (.const x), ty, pos, es, g⟩ := by
  refine step_yes hg fun a w Q hf => ?_
  have h := hf t (by simp [Op.operands])
  have h' := hf c (by simp [Op.operands])
  unfold Fk at h'
  rw [hc] at h'
  have h' : a.tmps.getD c undef = .bool true := h'
  unfold Oper.wp
  have hr : Sem.run Try.prog (execOp a.eval ⟨some d, .pick (.tmp c) (.tmp t) (.const x), ty, pos, es, g⟩) w = .ok (.value (a.tmps.getD t undef)) w := by go_simp
  rw [hr, Oper.upon_value]
  exact ⟨_, rfl, Below.refl _ _, fun d' hd' => by cases hd'; unfold Fk at h ⊢; rw [hd]; exact h⟩
/-- 'a || b', where a does not hold: as b. -/
theorem fl_or {x : Value} (hg : GuardYes (Fk κ) G g) (hc : κ c = .val (.bool false)) (hd : κ d = κ t) : FlowStep Try.prog (Fk κ) G ⟨some d, .pick (.tmp c) (.const x) (.tmp t), ty, pos, es, g⟩ := by
  refine step_yes hg fun a w Q hf => ?_
  have h := hf t (by simp [Op.operands])
  have h' := hf c (by simp [Op.operands])
  unfold Fk at h'
  rw [hc] at h'
  have h' : a.tmps.getD c undef = .bool false := h'
  unfold Oper.wp
  have hr : Sem.run Try.prog (execOp a.eval ⟨some d, .pick (.tmp c) (.const x) (.tmp t), ty, pos, es, g⟩) w = .ok (.value (a.tmps.getD t undef)) w := by go_simp
  rw [hr, Oper.upon_value]
  exact ⟨_, rfl, Below.refl _ _, fun d' hd' => by cases hd'; unfold Fk at h ⊢; rw [hd]; exact h⟩
/-- 'a && b', where a does not hold. -/
theorem fl_and_no {x : Value} (hg : GuardYes (Fk κ) G g) (hc : κ c = .val (.bool false)) (hd : κ d = .val x) : FlowStep Try.prog (Fk κ) G ⟨some d, .pick (.tmp c) (.tmp t) (.const x), ty, pos, es, g⟩ :=
  fl_un hg (by simp [Op.operands]) hc hd fun a w h => by go_simp
/-- An operation that is passed by. -/
theorem fl_skip {op : Op} {j : Nat} {b : Bool} {s : Tmp} (hG : G j = some s) (hs : κ s = .val (.bool (!b))) (hd : κ d = .any) : FlowStep Try.prog (Fk κ) G ⟨some d, op, ty, pos, es, some (j, b)⟩ :=
  step_no rfl hG (fun w v h => by unfold Fk at h; rw [hs] at h; exact h) fun w d' hd' => by cases hd'; unfold Fk; rw [hd]; trivial
end

end Go.Proofs.Ytdpiclmjdcjajaa
