/-
  The walk of Sub.
-/
import Derived.Test.YtdpiclmjdcjajaaR10
namespace Go.Proofs.Ytdpiclmjdcjajaa
open Go.RowKit Num

theorem keep6s {W0 W : World} {B B' g g' t t' : Nat} {x y z x' y' z' : Value} (hb : BoxV W0 B g t [x, y, z]) (hb' : BoxV W0 B' g' t' [x', y', z']) (h : Below W0.heap.size W0 W) :
    W.cell? ⟨g, 0, none⟩ = some x ∧ W.cell? ⟨g, 1, none⟩ = some y ∧ W.cell? ⟨g, 2, none⟩ = some z ∧ W.cell? ⟨g', 0, none⟩ = some x' ∧ W.cell? ⟨g', 1, none⟩ = some y' ∧ W.cell? ⟨g', 2, none⟩ = some z' := by
  obtain ⟨k0, k1, k2, k3, k4, k5, _⟩ := keep6 hb hb' h
  exact ⟨k0, k1, k2, k3, k4, k5⟩

set_option maxHeartbeats 4000000 in
theorem sub_any (na nb : Bool) (an ad bn bd : Option Addr) (n1 c1 n2 c2 m1 e1 m2 e2 k : Nat) (p q : Rat) (w : World) (hp : RatV w na an n1 c1 ad n2 c2 k p) (hq : RatV w nb bn m1 e1 bd m2 e2 k q) (hk : k ≤ 20000) :
    Calls Try.prog 85 #[.agg #[.bool na, .slice an n1 c1, .slice ad n2 c2], .agg #[.bool nb, .slice bn m1 e1, .slice bd m2 e2]] w (RatP (p - q) w) := by
  have hm := fun W (hW : Below w.heap.size w W) => add_rat na (!nb) an ad bn bd n1 c1 n2 c2 m1 e1 m2 e2 k p (-q) W (hp.below hW) (hq.below hW).neg hk
  have HA := Lib.hid hm
  clear hp hq hm
  go_enter Try.func85, Try.ntmps85
  go_wp2_with fail
  obtain ⟨W0, hW0⟩ : ∃ W0, ((w.alloc (.cells #[.bool na, .slice an n1 c1, .slice ad n2 c2] 24)).alloc (.cells #[.bool nb, .slice bn m1 e1, .slice bd m2 e2] 24)).alloc (.cells #[.bool false, .slice none 0 0, .slice none 0 0] 24) = W0 := ⟨_, rfl⟩
  have hbw : Below w.heap.size w W0 := by rw [← hW0]; exact below_alloc3 _ _ _ _
  obtain ⟨hb0, hb1, hb2⟩ := alloc3_box w [.bool na, .slice an n1 c1, .slice ad n2 c2] [.bool nb, .slice bn m1 e1, .slice bd m2 e2] [.bool false, .slice none 0 0, .slice none 0 0] 24
  simp only [hW0] at hb0 hb1 hb2
  rw [hW0]
  clear hW0
  have HX := Lib.hid (And.intro hbw (And.intro hb0 (And.intro hb1 hb2)))
  obtain ⟨⟨x0, x1, x2⟩, _⟩ := hb0.three
  obtain ⟨⟨y0, y1, y2⟩, _⟩ := hb1.three
  clear hbw hb0 hb1 hb2
  go_region_held3 (fun w' => w'.cell? ⟨w.heap.size, 0, none⟩ = some (.bool na) ∧ w'.cell? ⟨w.heap.size, 1, none⟩ = some (.slice an n1 c1) ∧ w'.cell? ⟨w.heap.size, 2, none⟩ = some (.slice ad n2 c2) ∧ w'.cell? ⟨w.heap.size + 1, 0, none⟩ = some (.bool nb) ∧ w'.cell? ⟨w.heap.size + 1, 1, none⟩ = some (.slice bn m1 e1) ∧ w'.cell? ⟨w.heap.size + 1, 2, none⟩ = some (.slice bd m2 e2))
    (first | exact keep6s HX.out.2.1 HX.out.2.2.1 ((Below.refl _ _).drew) | (go_split_ands; exact keep6s HX.out.2.1 HX.out.2.2.1 hk3) | (go_split_ands; exact keep6s HX.out.2.1 HX.out.2.2.1 hk1) | (go_split_ands; exact keep6s ((HX.out.2.1.below hk3).kept (grown_set3 _ _ _ _ _) (by simp; try omega)) ((HX.out.2.2.1.below hk3).kept (grown_set3 _ _ _ _ _) (by simp; try omega)) (Below.refl _ _)))
    (first
      | (go_at_call 118; refine (negated_any nb bn bd m1 e1 m2 e2 _).mono ?_; rintro e w1 ⟨rfl, hw1⟩; have hk1 := below_next ((Below.refl W0.heap.size W0).drew) hw1)
      | (go_at_call 70; refine (HA.out _ (below_next' HX.out.1 hk1)).mono ?_; rintro e w3 ⟨v, rfl, hv, hb3⟩; have hk3 := below_next hk1 hb3; obtain ⟨yn, yl, yc, dn, dl, dc, rfl, hzn, hzd⟩ := hv; have hB5 := HX.out.2.2.2.below hk3; obtain ⟨⟨t0, t1, t2⟩, i0, i1, i2⟩ := hB5.three))
  have hbw3 := below_next' HX.out.1 hk3
  have HF := Lib.hid (And.intro hzn (And.intro hzd (And.intro hbw3 hB5)))
  clear hzn hzd hbw3 hB5
  go_wp2_with fail
  obtain ⟨hzn, hzd, hbw3, hB5⟩ := HF.out
  have he : p + -q = p - q := (Rat.sub_eq_add_neg p q).symm
  rw [he] at hzn hzd ⊢
  refine bodyPost_ret (v := .agg #[.bool (decide ((p - q).num < 0)), .slice yn yl yc, .slice dn dl dc]) (by simp [results, Try.results85, go_sem, t0, t1, t2]) rfl ⟨_, rfl, ?_, below_set3 hbw3 (by omega) _ _ _⟩
  exact RatC.other (⟨yn, yl, yc, dn, dl, dc, rfl, hzn, hzd⟩ : RatC w3 _ (p - q)) hB5 noLimb_nil3 (grown_set3 _ _ _ _ _)

end Go.Proofs.Ytdpiclmjdcjajaa
