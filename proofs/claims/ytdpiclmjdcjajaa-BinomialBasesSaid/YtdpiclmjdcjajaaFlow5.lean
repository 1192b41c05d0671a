/-
  New variables of type api.Rat in a region that draws its order: 'f, g := a(x), b(y)'.
-/
import Derived.Test.YtdpiclmjdcjajaaFlow4
import Derived.Test.YtdpiclmjdcjajaaR12
namespace Go.Proofs.Ytdpiclmjdcjajaa
open Go.RowKit Num

theorem RatA.other {w w' : World} {v : Value} {k : Nat} {q : Rat} {B g t : Nat} {xs : List Value} (h : RatA w v k q) (hb : BoxV w B g t xs) (hx : NoLimb xs) (hg : w.grownBy w' (some g)) : RatA w' v k q := by
  obtain ⟨neg, an, cn, ad, cd, l1, l2, e, h1, h2, r⟩ := h
  exact ⟨neg, an, cn, ad, cd, l1, l2, e, h1.otherBox hb hx hg, h2.otherBox hb hx hg, r⟩

/-- What is known of a slot stays when another variable is written. -/
theorem Kd.kept {κ : Kd} {w w' : World} {v : Value} {B g t : Nat} {xs : List Value} (h : κ.holds w v) (hb : BoxV w B g t xs) (hx : NoLimb xs) (hg : w.grownBy w' (some g)) (hne : v ≠ .pointer (some ⟨g, 0, none⟩)) : κ.holds w' v := by
  have cell : ∀ g' j x, g' ≠ g → w.cell? ⟨g', j, none⟩ = some x → w'.cell? ⟨g', j, none⟩ = some x := fun g' j x hn hc => hg.cell hc (by simpa using hn)
  cases κ with
  | box k q =>
    obtain ⟨g', x0, x1, x2, rfl, c0, c1, c2, hr, hs⟩ := h
    have hn : g' ≠ g := fun e => hne (by rw [e])
    exact ⟨g', x0, x1, x2, rfl, cell _ _ _ hn c0, cell _ _ _ hn c1, cell _ _ _ hn c2, hr.other hb hx hg, hs⟩
  | boxC k q =>
    obtain ⟨g', x0, x1, x2, rfl, c0, c1, c2, hr, hs⟩ := h
    have hn : g' ≠ g := fun e => hne (by rw [e])
    exact ⟨g', x0, x1, x2, rfl, cell _ _ _ hn c0, cell _ _ _ hn c1, cell _ _ _ hn c2, hr.other hb hx hg, hs⟩
  | rat k q => exact ⟨h.1.other hb hx hg, h.2⟩
  | ratC k q => exact ⟨h.1.other hb hx hg, h.2⟩
  | val u => exact h
  | new B' =>
    obtain ⟨g', rfl, hbx⟩ := h
    have hn : g' ≠ g := fun e => hne (by rw [e])
    exact ⟨g', rfl, hbx.kept hg (by simpa using hn)⟩
  | any => trivial

theorem ratC_ne {k : Nat} {q : Rat} {w : World} {v : Value} {p : Option Addr} (h : (Kd.ratC k q).holds w v) : v ≠ .pointer p := by
  obtain ⟨⟨_, _, _, _, _, _, rfl, _⟩, _⟩ := h
  simp

theorem run_store24 (a : Act) (d : Option Tmp) (ty : TypeId) (pos : String) (es : Array Edge) (w : World) (t u : Tmp) (B g : Nat) (b : Bool) (p q : Option Addr) (n c m e : Nat) (x' y' z' : Value)
    (ht : a.tmps.getD t undef = .pointer (some ⟨g, 0, none⟩)) (hu : a.tmps.getD u undef = .agg #[.bool b, .slice p n c, .slice q m e]) (hb : BoxV w B g 24 [x', y', z']) :
    Sem.run Try.prog (execOp a.eval ⟨d, .store 24 (.tmp t) (.tmp u), ty, pos, es, none⟩) w = .ok .skip (((w.setCell ⟨g, 0, none⟩ (.bool b)).setCell ⟨g, 1, none⟩ (.slice p n c)).setCell ⟨g, 2, none⟩ (.slice q m e)) := by
  obtain ⟨⟨h0, h1, h2⟩, f0, f1, f2⟩ := hb.three
  go_simp

/-- A value is stored into its new variable. -/
theorem store_one {ops : Array Oper} {Q : Exit → Act → World → Prop} {K : Act → World → Prop} {m t u k B : Nat} {q : Rat} {a : Act} {w : World} {ty : TypeId} {pos : String} {es : Array Edge}
    (ho : ops[m]? = some ⟨none, .store 24 (.tmp t) (.tmp u), ty, pos, es, none⟩) (ht : (Kd.new B).holds w (a.tmps.getD t undef)) (hu : (Kd.ratC k q).holds w (a.tmps.getD u undef))
    (h : ∀ w', (∀ κ v, Kd.holds κ w v → v ≠ a.tmps.getD t undef → Kd.holds κ w' v) → (Kd.boxC k q).holds w' (a.tmps.getD t undef) → (∀ W0, Below B W0 w → Below B W0 w') → K a w') : wpOp Try.prog ops Q m K a w := by
  unfold wpOp
  rw [ho]
  simp only [Region.wanted, if_true]
  left
  obtain ⟨g, e, hb⟩ := ht
  obtain ⟨⟨an, ln, cn, ad, ld, cd, hv, hn, hd⟩, hs⟩ := hu
  unfold Oper.wp
  rw [run_store24 a none ty pos es w t u B g _ an ad ln cn ld cd _ _ _ e hv hb, Oper.upon_skip]
  have hg := grown_set3 w g (.bool (decide (q.num < 0))) (.slice an ln cn) (.slice ad ld cd)
  refine h _ (fun κ v hk hne => Kd.kept hk hb noLimb_nil3 hg (by rw [← e]; exact hne)) ?_ (fun W0 hW => below_set3 hW hb.block.1 _ _ _)
  obtain ⟨⟨c0, c1, c2⟩, _⟩ := (hb.store3 (.bool (decide (q.num < 0))) (.slice an ln cn) (.slice ad ld cd)).three
  exact ⟨g, _, _, _, e, c0, c1, c2, RatC.other (⟨an, ln, cn, ad, ld, cd, rfl, hn, hd⟩ : RatC w _ q) hb noLimb_nil3 hg, hs⟩

theorem run_alloc24 (a : Act) (d : Option Tmp) (ty : TypeId) (pos : String) (es : Array Edge) (w : World) :
    Sem.run Try.prog (execOp a.eval ⟨d, .alloc 24, ty, pos, es, none⟩) w = .ok (.value (.pointer (some ⟨w.heap.size, 0, none⟩))) (w.alloc (.cells #[.bool false, .slice none 0 0, .slice none 0 0] 24)) := by
  go_simp

section
variable {κ : Tmp → Kd} {G : Nat → Option Tmp} {N : List Tmp} {B : Nat} {d : Tmp} {ty : TypeId} {pos : String} {es : Array Edge}
theorem fl_new (hd : κ d = .new B) : FlowStepN Try.prog (Fk κ) G N B ⟨some d, .alloc 24, ty, pos, es, none⟩ := by
  intro a w Q hB _
  refine ⟨fun _ => ?_, fun h => by simp [flowWanted] at h⟩
  unfold Oper.wp
  rw [run_alloc24, Oper.upon_value]
  refine ⟨_, rfl, below_alloc1 _ _, fun d' hd' => ?_⟩
  cases hd'
  refine ⟨?_, fun _ => rfl⟩
  unfold Fk
  rw [hd]
  exact ⟨_, rfl, BoxV.new w B 24 hB [.bool false, .slice none 0 0, .slice none 0 0]⟩

theorem fl_fromInt {n : Int} {q : Rat} {g : Option (Nat × Bool)} (hg : GuardYes (Fk κ) G g) (hq : quo n 1 = q) (hd : κ d = .ratC 1 q) (h1 : -9223372036854775808 ≤ n) (h2 : n ≤ 9223372036854775807) (hs : Sz q 1) :
    FlowStep Try.prog (Fk κ) G ⟨some d, .call ⟨.value (.func 57), #[.const (.int .i64 n)], #[2]⟩, ty, pos, es, g⟩ := by
  refine step_yes hg fun a w Q _ => ?_
  unfold Oper.wp
  have hr : Sem.run Try.prog (execOp a.eval ⟨some d, .call ⟨.value (.func 57), #[.const (.int .i64 n)], #[2]⟩, ty, pos, es, g⟩) w = .ok (.enter 57 #[.int .i64 n]) w := by go_simp
  rw [hr, Oper.upon_enter]
  refine (fromInt_any n w h1 h2).mono ?_
  rintro e w' ⟨v, rfl, hv, hb⟩
  rw [hq] at hv
  exact ⟨v, rfl, hb, fun d' hd' => by cases hd'; unfold Fk; rw [hd]; exact ⟨hv, hs⟩⟩
end

end Go.Proofs.Ytdpiclmjdcjajaa
