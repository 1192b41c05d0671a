/-
  The walks of negated, Neg, Abs, Div.
-/
import Derived.Test.YtdpiclmjdcjajaaR8
namespace Go.Proofs.Ytdpiclmjdcjajaa
open Go.RowKit Num

theorem rat_not (s : Bool) (n d : Nat) : rat (!s) n d = - rat s n d := by
  unfold rat
  rw [Rat.neg_mkRat]
  cases s <;> simp

theorem rat_inv (s : Bool) (n d : Nat) : rat s d n = (rat s n d)⁻¹ := by
  unfold rat
  rw [← Rat.divInt_ofNat, ← Rat.divInt_ofNat, Rat.inv_divInt]
  cases s
  · simp
  · simp only [if_true]
    rw [← Rat.neg_divInt_neg]
    simp

theorem sgn_zero (q : Rat) : sgn q = 0 ↔ q = 0 := by
  unfold sgn
  by_cases h : q.num = 0
  · rw [if_pos h]
    exact ⟨fun _ => Rat.num_eq_zero.1 h, fun _ => rfl⟩
  · rw [if_neg h]
    refine ⟨fun e => ?_, fun e => absurd (by rw [e]; rfl) h⟩
    split at e <;> omega

set_option maxHeartbeats 2000000 in
theorem negated_any (na : Bool) (an ad : Option Addr) (n1 c1 n2 c2 : Nat) (w : World) :
    Calls Try.prog 118 #[.agg #[.bool na, .slice an n1 c1, .slice ad n2 c2]] w (fun e w' => e = .returned (.agg #[.bool (!na), .slice an n1 c1, .slice ad n2 c2]) ∧ Below w.heap.size w w') := by
  go_enter Try.func118, Try.ntmps118
  go_wp2
  refine bodyPost_ret (v := .agg #[.bool (!na), .slice an n1 c1, .slice ad n2 c2]) (by simp [results, Try.results118, go_sem]) rfl ⟨rfl, below_alloc2 _ _ _⟩

theorem RatV.neg {w : World} {neg : Bool} {an ad : Option Addr} {n cn m cd k : Nat} {q : Rat} (h : RatV w neg an n cn ad m cd k q) : RatV w (!neg) an n cn ad m cd k (-q) := by
  obtain ⟨l1, l2, rfl, rfl, h1, h2, k1, k2, hq⟩ := h
  exact ⟨l1, l2, rfl, rfl, h1, h2, k1, k2, by rw [hq, rat_not]⟩

theorem RatV.inv {w : World} {neg : Bool} {an ad : Option Addr} {n cn m cd k : Nat} {q : Rat} (h : RatV w neg an n cn ad m cd k q) : RatV w neg ad m cd an n cn k q⁻¹ := by
  obtain ⟨l1, l2, rfl, rfl, h1, h2, k1, k2, hq⟩ := h
  exact ⟨l2, l1, rfl, rfl, h2, h1, k2, k1, by rw [hq]; exact (rat_inv _ _ _).symm⟩

theorem alloc2_box (w : World) (a b : List Value) (t : Nat) :
    BoxV ((w.alloc (.cells a.toArray t)).alloc (.cells b.toArray t)) w.heap.size w.heap.size t a ∧ BoxV ((w.alloc (.cells a.toArray t)).alloc (.cells b.toArray t)) w.heap.size (w.heap.size + 1) t b := by
  refine ⟨(BoxV.new w w.heap.size t (Nat.le_refl _) a).alloc _, ?_⟩
  have := BoxV.new (w.alloc (.cells a.toArray t)) w.heap.size t (by simp) b
  simpa using this

/-- What Div answers. -/
def QuoP (p q : Rat) (w : World) (e : Ending) (w' : World) : Prop := ∃ v, e = .returned (.tuple #[v, .bool (decide (q ≠ 0))]) ∧ RatC w' v (p / q) ∧ Below w.heap.size w w'

set_option maxHeartbeats 4000000 in
theorem div_any (na nb : Bool) (an ad bn bd : Option Addr) (n1 c1 n2 c2 m1 e1 m2 e2 k : Nat) (p q : Rat) (w : World) (hp : RatV w na an n1 c1 ad n2 c2 k p) (hq : RatV w nb bn m1 e1 bd m2 e2 k q) (hk : k ≤ 20000) :
    Calls Try.prog 116 #[.agg #[.bool na, .slice an n1 c1, .slice ad n2 c2], .agg #[.bool nb, .slice bn m1 e1, .slice bd m2 e2]] w (QuoP p q w) := by
  have hs := fun W (hW : Below w.heap.size w W) => sign_any _ k q W (hq.below hW).a
  have hm := fun W (hW : Below w.heap.size w W) => mul_any na nb an ad bd bn n1 c1 n2 c2 m2 e2 m1 e1 k p q⁻¹ W (hp.below hW) (hq.below hW).inv hk
  have HA := Lib.hid (And.intro hs hm)
  clear hp hq hs hm
  go_enter Try.func116, Try.ntmps116
  go_wp2_with fail
  obtain ⟨W0, hW0⟩ : ∃ W0, ((w.alloc (.cells #[.bool na, .slice an n1 c1, .slice ad n2 c2] 24)).alloc (.cells #[.bool nb, .slice bn m1 e1, .slice bd m2 e2] 24)).alloc (.cells #[.bool false, .slice none 0 0, .slice none 0 0] 24) = W0 := ⟨_, rfl⟩
  have hbw : Below w.heap.size w W0 := by rw [← hW0]; exact below_alloc3 _ _ _ _
  obtain ⟨hb0, hb1, hb2⟩ := alloc3_box w [.bool na, .slice an n1 c1, .slice ad n2 c2] [.bool nb, .slice bn m1 e1, .slice bd m2 e2] [.bool false, .slice none 0 0, .slice none 0 0] 24
  simp only [hW0] at hb0 hb1 hb2
  rw [hW0]
  clear hW0
  refine (HA.out.1 _ hbw).mono ?_
  rintro e w1 ⟨rfl, hw1⟩
  have hww := below_next' hbw hw1
  have hB0 := hb0.below hw1
  have hB1 := hb1.below hw1
  have hB2 := hb2.below hw1
  obtain ⟨⟨x0, x1, x2⟩, _⟩ := hB0.three
  obtain ⟨⟨y0, y1, y2⟩, _⟩ := hB1.three
  obtain ⟨sq, hsq⟩ : ∃ sq, sgn q = sq := ⟨_, rfl⟩
  rw [hsq]
  have HX := Lib.hid (And.intro hww (And.intro hB2 hsq))
  clear hbw hb0 hb1 hb2 hw1 hww hB0 hB1 hB2 hsq
  by_cases h0 : sq = 0
  · have hb : (sq == 0) = true := by simp [h0]
    have HQ := Lib.hid h0
    clear h0
    go_wp2_with fail
    refine (zero_any w1).mono ?_
    rintro e w3 ⟨v, rfl, hv, hb3⟩
    have hbb := below_next' HX.out.1 hb3
    have hB5 := HX.out.2.1.below hb3
    clear hb3
    obtain ⟨yn, yl, yc, dn, dl, dc, rfl, hzn, hzd⟩ := hv
    obtain ⟨⟨t0, t1, t2⟩, i0, i1, i2⟩ := hB5.three
    have HF := Lib.hid (And.intro hzn (And.intro hzd (And.intro hbb hB5)))
    clear hzn hzd hbb hB5
    go_wp2
    obtain ⟨hzn, hzd, hbw3, hB5⟩ := HF.out
    have hq0 : q = 0 := (sgn_zero q).1 (HX.out.2.2.trans HQ.out)
    refine bodyPost_ret (v := .tuple #[.agg #[.bool (decide ((0 : Rat).num < 0)), .slice yn yl yc, .slice dn dl dc], .bool false]) (by simp [results, Try.results116, go_sem, t0, t1, t2]) rfl ⟨.agg #[.bool (decide ((0 : Rat).num < 0)), .slice yn yl yc, .slice dn dl dc], by simp [hq0], ?_, below_set3 hbw3 (by omega) _ _ _⟩
    have hpq : p / q = 0 := by rw [hq0, Rat.div_def]; simp
    rw [hpq]
    exact RatC.other (⟨yn, yl, yc, dn, dl, dc, rfl, hzn, hzd⟩ : RatC w3 _ 0) hB5 noLimb_nil3 (grown_set3 _ _ _ _ _)
  · have hb : (sq == 0) = false := by simpa using h0
    have HQ := Lib.hid h0
    clear h0
    go_wp2_with fail
    refine (HA.out.2 _ HX.out.1).mono ?_
    rintro e w3 ⟨v, rfl, hv, hb3⟩
    rw [← Rat.div_def] at hv
    have hbb := below_next' HX.out.1 hb3
    have hB5 := HX.out.2.1.below hb3
    clear hb3
    obtain ⟨yn, yl, yc, dn, dl, dc, rfl, hzn, hzd⟩ := hv
    obtain ⟨⟨t0, t1, t2⟩, i0, i1, i2⟩ := hB5.three
    have HF := Lib.hid (And.intro hzn (And.intro hzd (And.intro hbb hB5)))
    clear hzn hzd hbb hB5
    go_wp2
    obtain ⟨hzn, hzd, hbw3, hB5⟩ := HF.out
    have hq0 : q ≠ 0 := fun e => HQ.out (HX.out.2.2.symm.trans ((sgn_zero q).2 e))
    refine bodyPost_ret (v := .tuple #[.agg #[.bool (decide ((p / q).num < 0)), .slice yn yl yc, .slice dn dl dc], .bool true]) (by simp [results, Try.results116, go_sem, t0, t1, t2]) rfl ⟨.agg #[.bool (decide ((p / q).num < 0)), .slice yn yl yc, .slice dn dl dc], by simp [hq0], ?_, below_set3 hbw3 (by omega) _ _ _⟩
    exact RatC.other (⟨yn, yl, yc, dn, dl, dc, rfl, hzn, hzd⟩ : RatC w3 _ (p / q)) hB5 noLimb_nil3 (grown_set3 _ _ _ _ _)

end Go.Proofs.Ytdpiclmjdcjajaa
