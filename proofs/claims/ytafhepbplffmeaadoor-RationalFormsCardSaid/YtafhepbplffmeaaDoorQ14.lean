/-
  The reference's walks of FromInt and Div.
-/
import Derived.Test.YtafhepbplffmeaaDoorQ7
namespace Go.Proofs.YtafhepbplffmeaaDoor
open Go.RowKit Num

theorem refquo_neg {n : Int} (h : n < 0) : rat true n.natAbs 1 = quo n 1 := by
  unfold quo
  rw [decide_eq_true h]
  rfl
theorem refquo_pos {n : Int} (h : ¬ n < 0) : rat false n.natAbs 1 = quo n 1 := by
  unfold quo
  rw [decide_eq_false h]
  rfl
theorem wrap64 {x : Int} (h1 : 0 ≤ x) (h2 : x < 18446744073709551616) : IntKind.u64.wrap x = x := by
  simp [IntKind.wrap, IntKind.bits, IntKind.signed]; omega

theorem tail_assign {ops : Array Oper} {Q : Exit → Act → World → Prop} {K : Act → World → Prop} {m d : Nat} {v : Value} {a : Act} {w : World} {ty : TypeId} {pos : String} {es : Array Edge}
    (ho : ops[m]? = some ⟨some d, .assign (.const v), ty, pos, es, none⟩) (h : K (a.put (some d) v) w) : wpOp Tryd.prog ops Q m K a w := by
  unfold wpOp
  rw [ho]
  simp only [Region.wanted, if_true]
  left
  unfold Oper.wp
  have hr : Sem.run Tryd.prog (execOp a.eval ⟨some d, .assign (.const v), ty, pos, es, none⟩) w = .ok (.value v) w := by go_simp
  rw [hr, Oper.upon_value]
  exact h

theorem act_eq (a : Act) (n : Nat) (hn : a.tmps.size = n) (hd : a.defers = []) : a = ⟨((List.range n).map fun t => a.tmps.getD t undef).toArray, []⟩ := by
  obtain ⟨T, D⟩ := a
  simp only at hn hd
  subst hd
  congr 1
  refine Array.ext (by simp [hn]) fun i h1 h2 => ?_
  simp [Array.getD_eq_getD_getElem?, h1]

def divA (K : Nat) (p q : Rat) : Tmp → Kd := fun t => ([.any, .any, .box K p, .box K q, .any, .any, .rat K p, .ratC K p, .rat K q, .ratC K q] : List Kd).getD t .any

def divB (K : Nat) (p q r : Rat) : Tmp → Ke := fun t => ([.any, .any, .box K p, .box K q, .any, .any, .any, .any, .any, .any, .any, .any, .any, .any, .any, .adB (decide (p.num < 0)), .con (.bool (decide (p.num < 0))), .adB (decide (q.num < 0)), .con (.bool (decide (q.num < 0))), .con (.bool ((decide (p.num < 0)) != (decide (q.num < 0)))), .adN K p.num.natAbs, .nt K p.num.natAbs, .adN K q.den, .nt K q.den, .nt (K + K) (p.num.natAbs * q.den), .adN K p.den, .nt K p.den, .adN K q.num.natAbs, .nt K q.num.natAbs, .nt (K + K) (p.den * q.num.natAbs), .ratC r] : List Ke).getD t .any

end Go.Proofs.YtafhepbplffmeaaDoor

/-
  The walks of the reference's Small and of ToInt.
-/
namespace Go.Proofs.YtafhepbplffmeaaDoor
open Go.RowKit Num

theorem quo_div (a b : Int) : quo a 1 / quo b 1 = quo a b := by
  have e1 : ∀ n : Int, quo n 1 = rat (decide (n < 0)) n.natAbs 1 := fun n => by
    unfold quo
    have : decide ((1 : Int) < 0) = false := rfl
    rw [this, Bool.bne_false]
    rfl
  rw [e1, e1, Rat.div_def, ← rat_inv, rat_mul, Nat.mul_one, Nat.one_mul]
  rfl

/-- The whole number that fits. -/
def toI (q : Rat) : Int × Bool := if q.den = 1 ∧ -9223372036854775808 ≤ q.num ∧ q.num ≤ 9223372036854775807 then (q.num, true) else (0, false)
def ToIntP (q : Rat) (w : World) (e : Ending) (w' : World) : Prop := e = .returned (.tuple #[.int .i64 (toI q).1, .bool (toI q).2]) ∧ Below w.heap.size w w'

theorem whole_num {neg : Bool} {n d : Nat} (hd : 0 < d) (h : n % d = 0) : (rat neg n d).num = if neg = true then -((n / d : Nat) : Int) else ((n / d : Nat) : Int) := by
  have hg : Nat.gcd n d = d := Nat.gcd_eq_right (Nat.dvd_of_mod_eq_zero h)
  have ha := rat_num_natAbs neg n d hd
  rw [hg] at ha
  rcases Nat.eq_zero_or_pos n with rfl | hn
  · rw [rat_zero_num]
    simp
  · have hs := rat_neg_iff neg n d hn hd
    generalize (rat neg n d).num = z at *
    generalize n / d = x at *
    cases neg
    · have : ¬ z < 0 := of_decide_eq_false hs
      simp
      omega
    · have : z < 0 := of_decide_eq_true hs
      simp
      omega

theorem wrap_back {x : Nat} (h : x ≤ 9223372036854775808) : IntKind.i64.wrap (-IntKind.i64.wrap (x : Int)) = -(x : Int) := by
  simp [IntKind.wrap, IntKind.bits, IntKind.signed]; omega

end Go.Proofs.YtafhepbplffmeaaDoor

/-
  The reference's walk of ToInt.
-/
namespace Go.Proofs.YtafhepbplffmeaaDoor
open Go.RowKit Num

section
variable {κ : Tmp → Ke} {G : Nat → Option Tmp} {d s t u c : Tmp} {ty : TypeId} {pos : String} {es : Array Edge} {k x y : Nat} {q : Rat} {g : Option (Nat × Bool)}

theorem eguard {j : Nat} {b : Bool} (hG : G j = some s) (hk : κ s = .con (.bool b)) : GuardYes (Fe κ) G (some (j, b)) :=
  ⟨s, hG, fun w v h => by unfold Fe at h; rw [hk] at h; exact h⟩
theorem eguard0 : GuardYes (Fe κ) G none := trivial
theorem g_step {o : Oper} (hg : GuardYes (Fe κ) G o.guard)
    (h : ∀ (a : Act) (w : World) (Q : Exit → Act → World → Prop), (∀ t, .tmp t ∈ o.op.operands.toList → (κ t).holds w (a.tmps.getD t undef)) → o.wp Tryd.prog a w (fun a' w' => ∃ v, a' = a.put o.dst v ∧ Below w.heap.size w w' ∧ ∀ d, o.dst = some d → (κ d).holds w' v) Q) :
    FlowStep Tryd.prog (Fe κ) G o := step_yes (F := Fe κ) (G := G) hg h
theorem g_skip {op : Op} {j : Nat} {b : Bool} (hG : G j = some s) (hs : κ s = .con undef ∨ κ s = .con (.bool (!b))) (hd : κ d = .con undef) : FlowStep Tryd.prog (Fe κ) G ⟨some d, op, ty, pos, es, some (j, b)⟩ := by
  intro a w Q hf
  have h := hf s (.inr ⟨(j, b), rfl, hG⟩)
  have hw : flowWanted G ⟨some d, op, ty, pos, es, some (j, b)⟩ (fun t => a.tmps.getD t undef) = false := by
    unfold flowWanted
    simp only [hG]
    rcases hs with hs | hs
    · have h' : a.tmps.getD s undef = undef := by unfold Fe at h; rw [hs] at h; exact h
      rw [h']
      rfl
    · have h' : a.tmps.getD s undef = .bool (!b) := by unfold Fe at h; rw [hs] at h; exact h
      rw [h']
      cases b <;> rfl
  exact ⟨fun e => by rw [hw] at e; (cases e), fun _ d' hd' => by cases hd'; unfold Fe; rw [hd]; rfl⟩

set_option maxRecDepth 100000 in
theorem g_fieldB {b : Bool} (hg : GuardYes (Fe κ) G g) (ht : κ t = .box k q) (hb : decide (q.num < 0) = b) (hd : κ d = .adB b) : FlowStep Tryd.prog (Fe κ) G ⟨some d, .fieldAddr 24 (.tmp t) 0, ty, pos, es, g⟩ := by
  refine g_step hg fun a w Q hf => ?_
  have h := hf t (by simp [Op.operands])
  rw [ht] at h
  obtain ⟨b', x0, x1, x2, e, c0, c1, c2, ⟨an, ln, cn, ad, ld, cd, hv, hn, hdn⟩, hs⟩ := (show (Kd.boxC k q).holds w _ from h)
  simp only [Value.agg.injEq, Array.mk.injEq, List.cons.injEq, and_true] at hv
  obtain ⟨rfl, rfl, rfl⟩ := hv
  unfold Oper.wp
  rw [(run_field _ _ _ _ _ _ _ _ b' e).1, Oper.upon_value]
  exact ⟨_, rfl, Below.refl _ _, fun d' hd' => by cases hd'; rw [hd, ← hb]; exact ⟨_, _, rfl, c0⟩⟩
set_option maxRecDepth 100000 in
theorem g_fieldN (hg : GuardYes (Fe κ) G g) (ht : κ t = .box k q) (hd : κ d = .adN k q.num.natAbs) : FlowStep Tryd.prog (Fe κ) G ⟨some d, .fieldAddr 24 (.tmp t) 1, ty, pos, es, g⟩ := by
  refine g_step hg fun a w Q hf => ?_
  have h := hf t (by simp [Op.operands])
  rw [ht] at h
  obtain ⟨b', x0, x1, x2, e, c0, c1, c2, ⟨an, ln, cn, ad, ld, cd, hv, hn, hdn⟩, hs⟩ := (show (Kd.boxC k q).holds w _ from h)
  simp only [Value.agg.injEq, Array.mk.injEq, List.cons.injEq, and_true] at hv
  obtain ⟨rfl, rfl, rfl⟩ := hv
  unfold Oper.wp
  rw [(run_field _ _ _ _ _ _ _ _ b' e).2.1, Oper.upon_value]
  exact ⟨_, rfl, Below.refl _ _, fun d' hd' => by cases hd'; rw [hd]; exact ⟨_, _, _, rfl, c1, hn, hs.1⟩⟩
theorem g_loadB {b : Bool} (hg : GuardYes (Fe κ) G g) (ht : κ t = .adB b) (hd : κ d = .con (.bool b)) : FlowStep Tryd.prog (Fe κ) G ⟨some d, .load 4 (.tmp t), ty, pos, es, g⟩ := by
  refine g_step hg fun a w Q hf => ?_
  have h := hf t (by simp [Op.operands])
  rw [ht] at h
  obtain ⟨g', j, e, hc⟩ := h
  unfold Oper.wp
  rw [run_load4 _ _ _ _ _ _ _ _ g' j b e hc, Oper.upon_value]
  exact ⟨_, rfl, Below.refl _ _, fun d' hd' => by cases hd'; rw [hd]; rfl⟩
theorem g_loadN (hg : GuardYes (Fe κ) G g) (ht : κ t = .adN k x) (hd : κ d = .nt k x) : FlowStep Tryd.prog (Fe κ) G ⟨some d, .load 22 (.tmp t), ty, pos, es, g⟩ := by
  refine g_step hg fun a w Q hf => ?_
  have h := hf t (by simp [Op.operands])
  rw [ht] at h
  obtain ⟨g', j, u, e, hc, hn, hx⟩ := h
  obtain ⟨ua, un, uc, rfl⟩ := hn.shape
  unfold Oper.wp
  rw [run_load22 _ _ _ _ _ _ _ _ g' j ua un uc e hc, Oper.upon_value]
  exact ⟨_, rfl, Below.refl _ _, fun d' hd' => by cases hd'; rw [hd]; exact ⟨hn, hx⟩⟩
theorem g_move (hg : GuardYes (Fe κ) G g) (hd : κ d = κ t) : FlowStep Tryd.prog (Fe κ) G ⟨some d, .move (.tmp t), ty, pos, es, g⟩ := by
  refine g_step hg fun a w Q hf => ?_
  have h := hf t (by simp [Op.operands])
  unfold Oper.wp
  have hr : Sem.run Tryd.prog (execOp a.eval ⟨some d, .move (.tmp t), ty, pos, es, g⟩) w = .ok (.value (a.tmps.getD t undef)) w := by go_simp
  rw [hr, Oper.upon_value]
  exact ⟨_, rfl, Below.refl _ _, fun d' hd' => by cases hd'; rw [hd]; exact h⟩
theorem g_un {op : Op} {v r : Value} (hg : GuardYes (Fe κ) G g) (hm : .tmp t ∈ op.operands.toList) (ht : κ t = .con v) (hd : κ d = .con r)
    (hrun : ∀ (a : Act) (w : World), a.tmps.getD t undef = v → Sem.run Tryd.prog (execOp a.eval ⟨some d, op, ty, pos, es, g⟩) w = .ok (.value r) w) : FlowStep Tryd.prog (Fe κ) G ⟨some d, op, ty, pos, es, g⟩ := by
  refine g_step hg fun a w Q hf => ?_
  have h := hf t hm
  rw [ht] at h
  unfold Oper.wp
  rw [hrun a w h, Oper.upon_value]
  exact ⟨_, rfl, Below.refl _ _, fun d' hd' => by cases hd'; rw [hd]; rfl⟩
theorem g_not {b : Bool} (hg : GuardYes (Fe κ) G g) (ht : κ t = .con (.bool b)) (hd : κ d = .con (.bool (!b))) : FlowStep Tryd.prog (Fe κ) G ⟨some d, .unOp .not 4 (.tmp t), ty, pos, es, g⟩ :=
  g_un hg (by simp [Op.operands]) ht hd fun a w h => by go_simp
theorem g_gtr0 {n : Int} {b : Bool} (hg : GuardYes (Fe κ) G g) (ht : κ t = .con (.int .i64 n)) (hd : κ d = .con (.bool b)) (hb : decide (0 < n) = b) : FlowStep Tryd.prog (Fe κ) G ⟨some d, .binOp .gtr 3 (.tmp t) (.const (.int .i64 0)) 3, ty, pos, es, g⟩ :=
  g_un hg (by simp [Op.operands]) ht hd fun a w h => by subst hb; go_simp
theorem g_eql0 {n : Int} {b : Bool} (hg : GuardYes (Fe κ) G g) (ht : κ t = .con (.int .i64 n)) (hd : κ d = .con (.bool b)) (hb : (n == 0) = b) : FlowStep Tryd.prog (Fe κ) G ⟨some d, .binOp .eql 3 (.tmp t) (.const (.int .i64 0)) 3, ty, pos, es, g⟩ :=
  g_un hg (by simp [Op.operands]) ht hd fun a w h => by subst hb; go_simp
/-- 'c && t'. -/
theorem g_and {v : Value} (hg : GuardYes (Fe κ) G g) (hc : κ c = .con (.bool true)) (hd : κ d = κ t) : FlowStep Tryd.prog (Fe κ) G ⟨some d, .pick (.tmp c) (.tmp t) (.const v), ty, pos, es, g⟩ := by
  refine g_step hg fun a w Q hf => ?_
  have h := hf t (by simp [Op.operands])
  have h' := hf c (by simp [Op.operands])
  rw [hc] at h'
  have h' : a.tmps.getD c undef = .bool true := h'
  unfold Oper.wp
  have hr : Sem.run Tryd.prog (execOp a.eval ⟨some d, .pick (.tmp c) (.tmp t) (.const v), ty, pos, es, g⟩) w = .ok (.value (a.tmps.getD t undef)) w := by go_simp
  rw [hr, Oper.upon_value]
  exact ⟨_, rfl, Below.refl _ _, fun d' hd' => by cases hd'; rw [hd]; exact h⟩
theorem g_and_no {v : Value} (hg : GuardYes (Fe κ) G g) (hc : κ c = .con (.bool false)) (hd : κ d = .con v) : FlowStep Tryd.prog (Fe κ) G ⟨some d, .pick (.tmp c) (.tmp t) (.const v), ty, pos, es, g⟩ :=
  g_un hg (by simp [Op.operands]) hc hd fun a w h => by go_simp
/-- 'c || t'. -/
theorem g_or {v : Value} (hg : GuardYes (Fe κ) G g) (hc : κ c = .con (.bool false)) (hd : κ d = κ t) : FlowStep Tryd.prog (Fe κ) G ⟨some d, .pick (.tmp c) (.const v) (.tmp t), ty, pos, es, g⟩ := by
  refine g_step hg fun a w Q hf => ?_
  have h := hf t (by simp [Op.operands])
  have h' := hf c (by simp [Op.operands])
  rw [hc] at h'
  have h' : a.tmps.getD c undef = .bool false := h'
  unfold Oper.wp
  have hr : Sem.run Tryd.prog (execOp a.eval ⟨some d, .pick (.tmp c) (.const v) (.tmp t), ty, pos, es, g⟩) w = .ok (.value (a.tmps.getD t undef)) w := by go_simp
  rw [hr, Oper.upon_value]
  exact ⟨_, rfl, Below.refl _ _, fun d' hd' => by cases hd'; rw [hd]; exact h⟩
theorem g_or_yes {v : Value} (hg : GuardYes (Fe κ) G g) (hc : κ c = .con (.bool true)) (hd : κ d = .con v) : FlowStep Tryd.prog (Fe κ) G ⟨some d, .pick (.tmp c) (.const v) (.tmp t), ty, pos, es, g⟩ :=
  g_un hg (by simp [Op.operands]) hc hd fun a w h => by go_simp
theorem g_cmp (hg : GuardYes (Fe κ) G g) (ht : κ t = .nt k x) (hu : κ u = .nt k y) (hd : κ d = .con (.int .i64 (cmpI x y))) : FlowStep Tryd.prog (Fe κ) G ⟨some d, .call ⟨.value (.func 71), #[.tmp t, .tmp u], #[22, 22]⟩, ty, pos, es, g⟩ := by
  refine g_step hg fun a w Q hf => ?_
  have h1 := hf t (by simp [Op.operands, Call.operands])
  have h2 := hf u (by simp [Op.operands, Call.operands])
  rw [ht] at h1
  rw [hu] at h2
  unfold Oper.wp
  rw [c2_55, Oper.upon_enter]
  refine (natCmp_nt h1.1 h2.1).mono ?_
  rintro e w' ⟨rfl, n, rfl⟩
  exact ⟨_, rfl, below_drewN (Below.refl _ _) n, fun d' hd' => by cases hd'; rw [hd]; rfl⟩
theorem g_limbs {n : Nat} (hg : GuardYes (Fe κ) G g) (hd : κ d = .nt k n) (h1 : n < 18446744073709551616) (h2 : n < pw k) : FlowStep Tryd.prog (Fe κ) G ⟨some d, .call ⟨.value (.func 73), #[.const (.int .u64 n)], #[65]⟩, ty, pos, es, g⟩ := by
  refine g_step hg fun a w Q _ => ?_
  have hr : Sem.run Tryd.prog (execOp a.eval ⟨some d, .call ⟨.value (.func 73), #[.const (.int .u64 n)], #[65]⟩, ty, pos, es, g⟩) w = .ok (.enter 73 #[.int .u64 n]) w := by go_simp
  unfold Oper.wp
  rw [hr, Oper.upon_enter]
  refine (limbs_any n h1 w).mono ?_
  rintro e w' ⟨v, rfl, hv, hb⟩
  exact ⟨_, rfl, hb, fun d' hd' => by cases hd'; rw [hd]; exact ⟨hv, h2⟩⟩
end

def toA (K : Nat) (p : Rat) : Tmp → Ke := fun t => ([.any, .box K p, .any, .any, .any, .any, .any, .any, .any, .any, .any, .any, .any, .any, .any, .any, .any, .adN K p.num.natAbs, .nt K p.num.natAbs, .nt K 9223372036854775808, .con (.int .i64 (cmpI ((p.num.natAbs : Nat) : Int) ((9223372036854775808 : Nat) : Int))), .con (.bool true), .con (.bool true), .con undef, .con undef, .con undef, .con undef, .con undef, .con undef, .con undef, .con undef, .con undef, .con undef, .con (.bool true)] : List Ke).getD t .any

def toN (K : Nat) (p : Rat) : Tmp → Ke := fun t => ([.any, .box K p, .any, .any, .any, .any, .any, .any, .any, .any, .any, .any, .any, .any, .any, .any, .any, .adN K p.num.natAbs, .nt K p.num.natAbs, .nt K 9223372036854775808, .con (.int .i64 (cmpI ((p.num.natAbs : Nat) : Int) ((9223372036854775808 : Nat) : Int))), .con (.bool false), .con (.bool false), .adB true, .con (.bool true), .con (.bool false), .con (.bool false), .con undef, .con undef, .con undef, .con undef, .con undef, .con (.bool false), .con (.bool false)] : List Ke).getD t .any

def toP (K : Nat) (p : Rat) (b : Bool) : Tmp → Ke := fun t => ([.any, .box K p, .any, .any, .any, .any, .any, .any, .any, .any, .any, .any, .any, .any, .any, .any, .any, .adN K p.num.natAbs, .nt K p.num.natAbs, .nt K 9223372036854775808, .con (.int .i64 (cmpI ((p.num.natAbs : Nat) : Int) ((9223372036854775808 : Nat) : Int))), .con (.bool false), .con (.bool false), .adB false, .con (.bool false), .con (.bool true), .con (.bool true), .adN K p.num.natAbs, .nt K p.num.natAbs, .nt K 9223372036854775808, .con (.int .i64 (cmpI ((p.num.natAbs : Nat) : Int) ((9223372036854775808 : Nat) : Int))), .con (.bool b), .con (.bool b), .con (.bool b)] : List Ke).getD t .any

end Go.Proofs.YtafhepbplffmeaaDoor
