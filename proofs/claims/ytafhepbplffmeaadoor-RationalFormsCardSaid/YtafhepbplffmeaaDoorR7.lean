/-
  The walk of Cmp: at most 20000 limbs.
-/
import Derived.Test.YtafhepbplffmeaaDoorCross
import Derived.Deep.CutBlock
namespace Go.Proofs.YtafhepbplffmeaaDoor
open Go.RowKit Num

theorem keep6 {W0 W : World} {B B' g g' t t' : Nat} {x y z x' y' z' : Value} (hb : BoxV W0 B g t [x, y, z]) (hb' : BoxV W0 B' g' t' [x', y', z']) (h : Below W0.heap.size W0 W) :
    W.cell? ⟨g, 0, none⟩ = some x ∧ W.cell? ⟨g, 1, none⟩ = some y ∧ W.cell? ⟨g, 2, none⟩ = some z ∧ W.cell? ⟨g', 0, none⟩ = some x' ∧ W.cell? ⟨g', 1, none⟩ = some y' ∧ W.cell? ⟨g', 2, none⟩ = some z' ∧ Below W0.heap.size W0 W := by
  obtain ⟨⟨k0, k1, k2⟩, _⟩ := (hb.below h).three
  obtain ⟨⟨m0, m1, m2⟩, _⟩ := (hb'.below h).three
  exact ⟨k0, k1, k2, m0, m1, m2, h⟩

theorem quo_mk {a b : Int} (hb : 1 ≤ b) : quo a b = mkRat a b.natAbs := by
  unfold quo rat
  have : ¬ b < 0 := by omega
  by_cases h : a < 0
  · simp only [h, this, decide_true, decide_false]
    congr 1
    simp
    omega
  · simp only [h, this, decide_false]
    congr 1
    simp
    omega

theorem cmpQ_quo {a b c d : Int} (hb : 1 ≤ b) (hd : 1 ≤ d) : cmpI (a * d) (c * b) = cmpQ (quo a b) (quo c d) := by
  rw [quo_mk hb, quo_mk hd, cmpQ_cross _ _ (by omega) (by omega)]
  have h1 : ((b.natAbs : Nat) : Int) = b := by omega
  have h2 : ((d.natAbs : Nat) : Int) = d := by omega
  rw [h1, h2]

theorem wrap_in {x : Int} (h1 : -9223372036854775808 ≤ x) (h2 : x ≤ 9223372036854775807) : IntKind.i64.wrap x = x := by
  have e : (2 : Int) ^ 64 = 18446744073709551616 := by decide
  simp only [IntKind.wrap, IntKind.bits, IntKind.signed, e]
  have e' : (2 : Int) ^ (64 - 1) = 9223372036854775808 := by decide
  simp only [e', Bool.true_and, decide_eq_true_eq]
  split <;> omega

theorem wrap_cmpQ (p q : Rat) : IntKind.i64.wrap (cmpQ p q) = cmpQ p q := by
  refine wrap_in ?_ ?_ <;> (unfold cmpQ; split <;> (try split) <;> omega)

theorem small_prod {a d : Int} (h1 : -999999999 ≤ a) (h2 : a ≤ 999999999) (h3 : 1 ≤ d) (h4 : d ≤ 999999999) : IntKind.i64.wrap (a * d) = a * d := by
  have k1 : a * d ≤ 999999999 * 999999999 := Int.le_trans (Int.mul_le_mul_of_nonneg_right h2 (by omega)) (Int.mul_le_mul_of_nonneg_left h4 (by omega))
  have k2 : (-999999999) * d ≤ a * d := Int.mul_le_mul_of_nonneg_right h1 (by omega)
  generalize a * d = x at *
  have k3 : -999999999 * 999999999 ≤ x := by omega
  exact wrap_in (by omega) (by omega)

set_option maxRecDepth 100000 in
set_option maxHeartbeats 8000000 in
theorem cmp_any (na nb : Bool) (an ad bn bd : Option Addr) (n1 c1 n2 c2 m1 e1 m2 e2 k : Nat) (p q : Rat) (w : World) (hp : RatV w na an n1 c1 ad n2 c2 k p) (hq : RatV w nb bn m1 e1 bd m2 e2 k q) (hk : k ≤ 20000) :
    Calls Tryd.prog 17 #[.agg #[.bool na, .slice an n1 c1, .slice ad n2 c2], .agg #[.bool nb, .slice bn m1 e1, .slice bd m2 e2]] w (fun e w' => e = .returned (.int .i64 (cmpQ p q)) ∧ Below w.heap.size w w') := by
  have hc0 := fun W (hW : Below w.heap.size w W) => pair_any na nb an ad bn bd n1 c1 n2 c2 m1 e1 m2 e2 k p q W (hp.below hW) (hq.below hW)
  have hs1 := fun W (hW : Below w.heap.size w W) => sign_any _ k p W (hp.below hW).a
  have hs2 := fun W (hW : Below w.heap.size w W) => sign_any _ k q W (hq.below hW).a
  have hr1 := fun W (hW : Below w.heap.size w W) => readV (hp.below hW) (by omega)
  have hr2 := fun W (hW : Below w.heap.size w W) => readV (hq.below hW) (by omega)
  have HA := Lib.hid (And.intro hc0 (And.intro hs1 (And.intro hs2 (And.intro hr1 hr2))))
  clear hp hq hc0 hs1 hs2 hr1 hr2
  go_enter Tryd.func17, Tryd.ntmps17
  go_wp2_with fail
  obtain ⟨W0, hW0⟩ : ∃ W0, (w.alloc (.cells #[.bool na, .slice an n1 c1, .slice ad n2 c2] 24)).alloc (.cells #[.bool nb, .slice bn m1 e1, .slice bd m2 e2] 24) = W0 := ⟨_, rfl⟩
  have hbw : Below w.heap.size w W0 := by rw [← hW0]; exact below_alloc2 _ _ _
  have hb1 : BoxV W0 w.heap.size (w.heap.size + 1) 24 [.bool nb, .slice bn m1 e1, .slice bd m2 e2] := by
    rw [← hW0]
    have := BoxV.new (w.alloc (.cells #[.bool na, .slice an n1 c1, .slice ad n2 c2] 24)) w.heap.size 24 (by simp) [.bool nb, .slice bn m1 e1, .slice bd m2 e2]
    simpa using this
  have hb0 : BoxV W0 w.heap.size w.heap.size 24 [.bool na, .slice an n1 c1, .slice ad n2 c2] := by
    rw [← hW0]
    exact (BoxV.new w w.heap.size 24 (Nat.le_refl _) [.bool na, .slice an n1 c1, .slice ad n2 c2]).alloc _
  rw [hW0]
  clear hW0
  refine (HA.out.1 _ hbw).mono ?_
  rintro e w1 ⟨a, b, c, d, ok, rfl, hok, hw1⟩
  have hz1 : w.heap.size + 1 < w1.heap.size := (hb1.below hw1).block.2
  have hz2 : w.heap.size < w1.heap.size := by omega
  obtain ⟨⟨x0, x1, x2⟩, _⟩ := (hb0.below hw1).three
  obtain ⟨⟨y0, y1, y2⟩, _⟩ := (hb1.below hw1).three
  have HX := Lib.hid (And.intro hbw (And.intro hb0 (And.intro hb1 (And.intro hok hw1))))
  clear hbw hb0 hb1 hok hw1
  cases ok
  · go_wp2_with fail
    have hW2 : Below W0.heap.size W0 ((w1.alloc (.cells #[.int .i64 a, .int .i64 b] 54)).alloc (.cells #[.int .i64 c, .int .i64 d] 54)) := below_next HX.out.2.2.2.2 (below_alloc2 _ _ _)
    obtain ⟨W2, hW2e⟩ : ∃ W2, (w1.alloc (.cells #[.int .i64 a, .int .i64 b] 54)).alloc (.cells #[.int .i64 c, .int .i64 d] 54) = W2 := ⟨_, rfl⟩
    rw [hW2e] at hW2 ⊢
    obtain ⟨x0', x1', x2', y0', y1', y2', _⟩ := keep6 HX.out.2.1 HX.out.2.2.1 hW2
    clear hW2e x0 x1 x2 y0 y1 y2
    refine (HA.out.2.1 _ (below_next' HX.out.1 hW2)).mono ?_
    rintro e w3 ⟨rfl, hw3⟩
    have hW3 := below_next hW2 hw3
    obtain ⟨x0, x1, x2, y0, y1, y2, _⟩ := keep6 HX.out.2.1 HX.out.2.2.1 hW3
    clear x0' x1' x2' y0' y1' y2' hw3 hW2
    have HW3 := Lib.hid hW3
    clear hW3
    go_wp2_with fail
    refine (HA.out.2.2.1 _ (below_next' HX.out.1 HW3.out)).mono ?_
    rintro e w4 ⟨rfl, hw4⟩
    have hW4 := below_next HW3.out hw4
    obtain ⟨x0', x1', x2', y0', y1', y2', _⟩ := keep6 HX.out.2.1 HX.out.2.2.1 hW4
    clear x0 x1 x2 y0 y1 y2 hw4
    have HW4 := Lib.hid hW4
    clear hW4
    obtain ⟨sp, hsp⟩ : ∃ sp, sgn p = sp := ⟨_, rfl⟩
    obtain ⟨sq, hsq⟩ : ∃ sq, sgn q = sq := ⟨_, rfl⟩
    rw [hsp, hsq]
    have HSG := Lib.hid (And.intro hsp hsq)
    clear hsp hsq
    by_cases hss : sp = sq
    · have hne : (sp != sq) = false := by simpa using hss
      go_wp2_with fail
      have hww : Below w.heap.size w w4 := below_next' HX.out.1 HW4.out
      have hB0 := HX.out.2.1.below HW4.out
      have hB1 := HX.out.2.2.1.below HW4.out
      have HZ := Lib.hid (And.intro hww (And.intro hB0 hB1))
      clear hww hB0 hB1
      go_cut [10, 11] (fun s10 s11 wx => TwoR w4 (k + 1) p q s10 s11 wx)
      case first =>
        refine two_reads_at (k := k + 1) (p := p) (q := q) 2 3 41 42 43 44 10 11 "rational.go:86" 8 (by decide) (by decide) (by decide) (by simp) HZ.out.2.1 HZ.out.2.2 (fun W hW => HA.out.2.2.2.1 W (below_next' HZ.out.1 hW)) (fun W hW => HA.out.2.2.2.2 W (below_next' HZ.out.1 hW)) rfl rfl ?_
        intro v1 v2 v3 v4 vx vy wx hT
        have hR := hT.out
        clear hT
        unfold six
        go_simp
        go_wp2_with fail
        go_meet
        exact hR
      case rest =>
        have hcs := HSG.out
        obtain ⟨⟨g1, ng1, fa, fl, fc, ga, gl, gc, fn, fd, rfl, hB1, hf1, hf2, hf3, hf4, hf5, hf6⟩, ⟨g2, ng2, ia, il, ic, ja, jl, jc, gn, gd, rfl, hB2, hg1, hg2, hg3, hg4, hg5, hg6⟩, hBw⟩ := hcut
        have hfin : IntKind.i64.wrap (sq * cmpI ((fn : Int) * gd) ((gn : Int) * fd)) = cmpQ p q := by
          have := cmp_cross hf3 hg3 hf6 hg6 (by rw [hcs.1, hcs.2, hss])
          rw [hcs.1, hss, Int.natCast_mul, Int.natCast_mul] at this
          rw [this, wrap_cmpQ]
        have hm1 := fun W (hW : Below wc.heap.size wc W) => Nt.mul (hf1.below hW) (hg2.below hW) hf4 hg5 (by omega)
        have hm2 := fun W (hW : Below wc.heap.size wc W) => Nt.mul (hg1.below hW) (hf2.below hW) hg4 hf5 (by omega)
        have hbw := below_next' HZ.out.1 hBw
        obtain ⟨⟨m0, m1, m2⟩, _⟩ := hB1.three
        obtain ⟨⟨m3, m4, m5⟩, _⟩ := hB2.three
        have HB := Lib.hid (And.intro hB1 (And.intro hB2 (And.intro hm1 (And.intro hm2 (And.intro hbw hfin)))))
        clear hB1 hB2 hm1 hm2 hbw hfin hf1 hf2 hf3 hf4 hf5 hf6 hg1 hg2 hg3 hg4 hg5 hg6 hBw hcs
        go_wp2_with fail
        go_region_held3 (fun w' => w'.cell? ⟨g1, 0, none⟩ = some (.bool ng1) ∧ w'.cell? ⟨g1, 1, none⟩ = some (.slice fa fl fc) ∧ w'.cell? ⟨g1, 2, none⟩ = some (.slice ga gl gc) ∧ w'.cell? ⟨g2, 0, none⟩ = some (.bool ng2) ∧ w'.cell? ⟨g2, 1, none⟩ = some (.slice ia il ic) ∧ w'.cell? ⟨g2, 2, none⟩ = some (.slice ja jl jc) ∧ Below wc.heap.size wc w')
          (first | with_reducible exact keep6 HB.out.1 HB.out.2.1 ((Below.refl _ _).drew) | with_reducible exact keep6 HB.out.1 HB.out.2.1 hk7 | with_reducible exact keep6 HB.out.1 HB.out.2.1 hk6 | with_reducible exact keep6 HB.out.1 HB.out.2.1 hk5)
          (first
            | (go_at_call_of 31 (Value.slice fa fl fc); go_split_ands; refine (HB.out.2.2.1 _ (by with_reducible assumption)).mono ?_; rintro e w5 ⟨v5, rfl, hv5, hb5⟩; have hk5 : Below wc.heap.size wc w5 := below_next (by with_reducible assumption) hb5)
            | (go_at_call_of 31 (Value.slice ia il ic); go_split_ands; refine (HB.out.2.2.2.1 _ (by with_reducible assumption)).mono ?_; rintro e w6 ⟨v6, rfl, hv6, hb6⟩; have hk6 : Below wc.heap.size wc w6 := below_next hk5 hb6; have hv5' := hv5.below hb6)
            | (go_at_call 33; go_split_ands; refine (Nt.cmp hv5' hv6).mono ?_; rintro e w7 ⟨rfl, hb7⟩; have hk7 : Below wc.heap.size wc w7 := below_next hk6 hb7))
        have HK := Lib.hid hk7
        clear hk7 hb7
        go_wp2_with fail
        go_ret
        exact ⟨ret_int HB.out.2.2.2.2.2, below_next' HB.out.2.2.2.2.1 HK.out⟩
    · have hne : (sp != sq) = true := by simpa using hss
      go_wp2_with (go_at_call 37; refine (cmp68 _ _ _).mono ?_; rintro e w' ⟨rfl, rfl⟩)
      go_ret
      refine ⟨?_, below_next' HX.out.1 HW4.out⟩
      rw [← HSG.out.1, ← HSG.out.2] at hss ⊢
      exact ret_int (sgn_cmp hss)
  · have hok := HX.out.2.2.2.1 (by first | trivial | rfl)
    obtain ⟨q1, q2, l1, l2, l3, l4, l5, l6, l7, l8⟩ := hok
    have hp1 := small_prod l1 l2 l7 l8
    have hp2 := small_prod l5 l6 l3 l4
    have hfin := cmpQ_quo (a := a) (c := c) l3 l7
    rw [q1, q2] at hfin
    clear l1 l2 l3 l4 l5 l6 l7 l8 q1 q2
    go_wp2_with (go_at_call 35; refine (cmp67 _ _ _).mono ?_; rintro e w' ⟨rfl, rfl⟩)
    go_ret
    exact ⟨rfl, below_next' HX.out.1 (below_next HX.out.2.2.2.2 (below_alloc2 _ _ _))⟩

end Go.Proofs.YtafhepbplffmeaaDoor
