/-
  The walk of Add: at most 20000 limbs.
-/
import Derived.Test.YtdpiclmjdcjajaaR9
namespace Go.Proofs.Ytdpiclmjdcjajaa
open Go.RowKit Num

theorem quo_add {a b c d : Int} (hb : 1 ≤ b) (hd : 1 ≤ d) : quo a b + quo c d = quo (a * d + c * b) (b * d) := by
  have h : 1 ≤ b * d := Int.mul_pos (by omega) (by omega)
  rw [quo_mk hb, quo_mk hd, quo_mk h, Rat.mkRat_add_mkRat _ _ (by omega) (by omega), Int.natAbs_mul]
  have h1 : ((b.natAbs : Nat) : Int) = b := by omega
  have h2 : ((d.natAbs : Nat) : Int) = d := by omega
  rw [h1, h2]

theorem rat_add_same (s : Bool) {a b c d : Nat} (hb : 0 < b) (hd : 0 < d) : rat s a b + rat s c d = rat s (a * d + c * b) (b * d) := by
  unfold rat
  rw [Rat.mkRat_add_mkRat _ _ (by omega) (by omega)]
  congr 1
  cases s
  · simp
  · simp only [if_true, Int.natCast_add, Int.natCast_mul, Int.neg_mul, Int.neg_add]

theorem rat_add_more {s t : Bool} (hst : s ≠ t) {a b c d : Nat} (hb : 0 < b) (hd : 0 < d) (h : c * b ≤ a * d) : rat s a b + rat t c d = rat s (a * d - c * b) (b * d) := by
  unfold rat
  rw [Rat.mkRat_add_mkRat _ _ (by omega) (by omega)]
  congr 1
  have e : ((a * d - c * b : Nat) : Int) = (a : Int) * d - (c : Int) * b := by
    rw [Int.ofNat_sub h, Int.natCast_mul, Int.natCast_mul]
  rw [e]
  cases s <;> cases t <;> simp at hst ⊢
  · rw [Int.neg_mul]; omega
  · rw [Int.neg_mul]; omega

theorem rat_add_less {s t : Bool} (hst : s ≠ t) {a b c d : Nat} (hb : 0 < b) (hd : 0 < d) (h : a * d ≤ c * b) : rat s a b + rat t c d = rat t (c * b - a * d) (b * d) := by
  have e := rat_add_more (s := t) (t := s) (fun e => hst e.symm) hd hb h
  rw [Rat.add_comm, Nat.mul_comm b d]
  exact e

theorem Nt.add {w : World} {u v : Value} {x y k : Nat} (hu : Nt w u x) (hv : Nt w v y) (hx : x < pw k) (hy : y < pw k) (hk : k ≤ 1000000) : Calls Try.prog 112 #[u, v] w (NtP (x + y) w) := by
  obtain ⟨a, a1, a2, rfl⟩ := hu
  obtain ⟨b, b1, b2, rfl⟩ := hv
  have l1 := cano_len a2 hx
  have l2 := cano_len b2 hy
  exact add_any u v a b w a1 b1 a2.1 b2.1 (by omega) (by omega)

theorem Nt.sub {w : World} {u v : Value} {x y k : Nat} (hu : Nt w u x) (hv : Nt w v y) (hx : x < pw k) (hk : k ≤ 1000000) (hle : y ≤ x) : Calls Try.prog 114 #[u, v] w (NtP (x - y) w) := by
  obtain ⟨a, a1, a2, rfl⟩ := hu
  obtain ⟨b, b1, b2, rfl⟩ := hv
  have l1 := cano_len a2 hx
  refine subtract_any u v a b w a1 b1 a2.1 b2.1 (by omega) ?_ hle
  rcases Nat.lt_or_ge a.length b.length with h | h
  · have := can_len_lt a2 b2 h
    omega
  · exact h

/-- The sum that is being built. -/
def SumR (w6 : World) (ng : Bool) (d : Nat) (s : Value) (wx : World) : Prop :=
  ∃ h pd qd sd, s = .pointer (some ⟨h, 0, none⟩) ∧ BoxV wx w6.heap.size h 60 [.bool ng, .slice none 0 0, .slice pd qd sd] ∧ Nt wx (.slice pd qd sd) d ∧ Below w6.heap.size w6 wx

theorem keep1 {W0 W : World} {B g t : Nat} {x y z : Value} (hb : BoxV W0 B g t [x, y, z]) (h : Below W0.heap.size W0 W) : W.cell? ⟨g, 0, none⟩ = some x ∧ Below W0.heap.size W0 W := ⟨(hb.below h).three.1.1, h⟩

theorem noLimb_bool (b : Bool) (a : Option Addr) (n c : Nat) : NoLimb [.bool b, .slice none 0 0, .slice a n c] := noLimb_rat _ _ _ _ _ _ _

set_option maxRecDepth 100000 in
set_option maxHeartbeats 8000000 in
theorem add_rat (na nb : Bool) (an ad bn bd : Option Addr) (n1 c1 n2 c2 m1 e1 m2 e2 k : Nat) (p q : Rat) (w : World) (hp : RatV w na an n1 c1 ad n2 c2 k p) (hq : RatV w nb bn m1 e1 bd m2 e2 k q) (hk : k ≤ 20000) :
    Calls Try.prog 70 #[.agg #[.bool na, .slice an n1 c1, .slice ad n2 c2], .agg #[.bool nb, .slice bn m1 e1, .slice bd m2 e2]] w (RatP (p + q) w) := by
  have hc0 := fun W (hW : Below w.heap.size w W) => pair_any na nb an ad bn bd n1 c1 n2 c2 m1 e1 m2 e2 k p q W (hp.below hW) (hq.below hW)
  have hr1 := fun W (hW : Below w.heap.size w W) => readV (hp.below hW) (by omega)
  have hr2 := fun W (hW : Below w.heap.size w W) => readV (hq.below hW) (by omega)
  have HA := Lib.hid (And.intro hc0 (And.intro hr1 hr2))
  clear hp hq hc0 hr1 hr2
  go_enter Try.func70, Try.ntmps70
  go_wp2_with fail
  obtain ⟨W0, hW0⟩ : ∃ W0, ((w.alloc (.cells #[.bool na, .slice an n1 c1, .slice ad n2 c2] 24)).alloc (.cells #[.bool nb, .slice bn m1 e1, .slice bd m2 e2] 24)).alloc (.cells #[.bool false, .slice none 0 0, .slice none 0 0] 24) = W0 := ⟨_, rfl⟩
  have hbw : Below w.heap.size w W0 := by rw [← hW0]; exact below_alloc3 _ _ _ _
  obtain ⟨hb0, hb1, hb2⟩ := alloc3_box w [.bool na, .slice an n1 c1, .slice ad n2 c2] [.bool nb, .slice bn m1 e1, .slice bd m2 e2] [.bool false, .slice none 0 0, .slice none 0 0] 24
  simp only [hW0] at hb0 hb1 hb2
  rw [hW0]
  clear hW0
  refine (HA.out.1 _ hbw).mono ?_
  rintro e w1 ⟨a, b, c, d, ok, rfl, hok, hw1⟩
  have hz1 : w.heap.size + 1 + 1 < w1.heap.size := (hb2.below hw1).block.2
  have hz2 : w.heap.size < w1.heap.size := by omega
  have hz3 : w.heap.size + 1 < w1.heap.size := by omega
  have HX := Lib.hid (And.intro hbw (And.intro hb0 (And.intro hb1 (And.intro hb2 (And.intro hok hw1)))))
  obtain ⟨⟨x0, x1, x2⟩, _⟩ := (hb0.below hw1).three
  obtain ⟨⟨y0, y1, y2⟩, _⟩ := (hb1.below hw1).three
  obtain ⟨⟨t0, t1, t2⟩, i0, i1, i2⟩ := (hb2.below hw1).three
  clear hbw hb0 hb1 hb2 hok hw1
  cases ok
  · go_wp2_with fail
    have hW2 : Below W0.heap.size W0 ((w1.alloc (.cells #[.int .i64 a, .int .i64 b] 104)).alloc (.cells #[.int .i64 c, .int .i64 d] 104)) := below_next HX.out.2.2.2.2.2 (below_alloc2 _ _ _)
    obtain ⟨W2, hW2e⟩ : ∃ W2, (w1.alloc (.cells #[.int .i64 a, .int .i64 b] 104)).alloc (.cells #[.int .i64 c, .int .i64 d] 104) = W2 := ⟨_, rfl⟩
    rw [hW2e] at hW2 ⊢
    clear hW2e x0 x1 x2 y0 y1 y2 t0 t1 t2 i0 i1 i2
    have hww : Below w.heap.size w W2 := below_next' HX.out.1 hW2
    have hB0 := HX.out.2.1.below hW2
    have hB1 := HX.out.2.2.1.below hW2
    have hB2 := HX.out.2.2.2.1.below hW2
    have HZ := Lib.hid (And.intro hww (And.intro hB0 (And.intro hB1 hB2)))
    clear hww hB0 hB1 hB2 hW2 HX
    go_cut [8, 9] (fun s10 s11 wx => TwoR W2 (k + 1) p q s10 s11 wx)
    case first =>
      refine two_reads_at (k := k + 1) (p := p) (q := q) 2 3 38 39 40 41 8 9 "rational.go:105" 4 (by decide) (by decide) (by decide) (by simp) HZ.out.2.1 HZ.out.2.2.1 (fun W hW => HA.out.2.1 W (below_next' HZ.out.1 hW)) (fun W hW => HA.out.2.2 W (below_next' HZ.out.1 hW)) rfl rfl ?_
      intro v1 v2 v3 v4 vx vy wx hT
      have hR := hT.out
      clear hT
      unfold six
      go_simp
      go_wp2_with fail
      go_meet
      exact hR
    case rest =>
      obtain ⟨wm, rfl⟩ : ∃ wm, wm = wc := ⟨_, rfl⟩
      obtain ⟨⟨g1, ng1, fa, fl, fc, ga, gl, gc, fn, fd, rfl, hB1, hf1, hf2, hf3, hf4, hf5, hf6⟩, ⟨g2, ng2, ia, il, ic, ja, jl, jc, gn, gd, rfl, hB2, hg1, hg2, hg3, hg4, hg5, hg6⟩, hBw⟩ := hcut
      have hm1 := fun W (hW : Below wm.heap.size wm W) => Nt.mul (hf1.below hW) (hg2.below hW) hf4 hg5 (by omega)
      have hm2 := fun W (hW : Below wm.heap.size wm W) => Nt.mul (hg1.below hW) (hf2.below hW) hg4 hf5 (by omega)
      have hm3 := fun W (hW : Below wm.heap.size wm W) => Nt.mul (hf2.below hW) (hg2.below hW) hf5 hg5 (by omega)
      have hs1 := pw_prod hf4 hg5
      have hs2 := pw_prod hg4 hf5
      have hs3 := pw_prod hf5 hg5
      have hd0 : 0 < fd * gd := Nat.mul_pos hf3 hg3
      have hbw := below_next' HZ.out.1 hBw
      have hB4 := HZ.out.2.2.2.below hBw
      obtain ⟨⟨k0, k1, k2⟩, _⟩ := hB1.three
      obtain ⟨⟨k3, k4, k5⟩, _⟩ := hB2.three
      have HB := Lib.hid (And.intro hB1 (And.intro hB2 (And.intro hm1 (And.intro hm2 (And.intro hm3 (And.intro hbw hB4))))))
      have HS := Lib.hid (And.intro hs1 (And.intro hs2 (And.intro hs3 (And.intro hd0 (And.intro hf3 (And.intro hg3 (And.intro hf6 hg6)))))))
      clear hB1 hB2 hm1 hm2 hm3 hbw hB4 hs1 hs2 hs3 hd0 hf1 hf2 hf3 hf4 hf5 hf6 hg1 hg2 hg3 hg4 hg5 hg6 hBw
      go_wp2_with fail
      go_region_held3 (fun w' => w'.cell? ⟨g1, 0, none⟩ = some (.bool ng1) ∧ w'.cell? ⟨g1, 1, none⟩ = some (.slice fa fl fc) ∧ w'.cell? ⟨g1, 2, none⟩ = some (.slice ga gl gc) ∧ w'.cell? ⟨g2, 0, none⟩ = some (.bool ng2) ∧ w'.cell? ⟨g2, 1, none⟩ = some (.slice ia il ic) ∧ w'.cell? ⟨g2, 2, none⟩ = some (.slice ja jl jc) ∧ Below wm.heap.size wm w')
        (first | with_reducible exact keep6 HB.out.1 HB.out.2.1 ((Below.refl _ _).drew) | (go_split_ands; with_reducible exact keep6 HB.out.1 HB.out.2.1 hk6) | (go_split_ands; with_reducible exact keep6 HB.out.1 HB.out.2.1 hk5))
        (first
          | (go_at_call_of 111 (Value.slice fa fl fc); go_split_ands; refine (HB.out.2.2.1 _ (by with_reducible assumption)).mono ?_; rintro e w5 ⟨v5, rfl, hv5, hb5⟩; obtain ⟨p5, q5, s5, rfl⟩ := hv5.shape; have hk5 : Below wm.heap.size wm w5 := below_next (by with_reducible assumption) hb5)
          | (go_at_call_of 111 (Value.slice ia il ic); go_split_ands; refine (HB.out.2.2.2.1 _ (by with_reducible assumption)).mono ?_; rintro e w6 ⟨v6, rfl, hv6, hb6⟩; obtain ⟨p6, q6, s6, rfl⟩ := hv6.shape; have hk6 : Below wm.heap.size wm w6 := below_next hk5 hb6; have hv5' := hv5.below hb6))
      have hl := hv5'
      have hr := hv6
      have HL := Lib.hid (And.intro hl (And.intro hr hk6))
      have hC1 := HB.out.1.below hk6
      have hC2 := HB.out.2.1.below hk6
      have hm3 := fun W (hW : Below w6.heap.size w6 W) => HB.out.2.2.2.2.1 W (below_next hk6 hW)
      obtain ⟨⟨k0, k1, k2⟩, _⟩ := hC1.three
      obtain ⟨⟨k3, k4, k5⟩, _⟩ := hC2.three
      have HC := Lib.hid (And.intro hC1 (And.intro hC2 hm3))
      clear hl hr hv5 hv5' hv6 hb5 hb6 hk5 hk6 hC1 hC2 hm3
      go_wp2_with fail
      go_cut [12] (fun s12 wx => SumR w6 ng1 (fd * gd) s12 wx)
      case first =>
        go_region_held3 (fun w' => w'.cell? ⟨g1, 0, none⟩ = some (.bool ng1) ∧ w'.cell? ⟨g1, 1, none⟩ = some (.slice fa fl fc) ∧ w'.cell? ⟨g1, 2, none⟩ = some (.slice ga gl gc) ∧ w'.cell? ⟨g2, 0, none⟩ = some (.bool ng2) ∧ w'.cell? ⟨g2, 1, none⟩ = some (.slice ia il ic) ∧ w'.cell? ⟨g2, 2, none⟩ = some (.slice ja jl jc) ∧ Below w6.heap.size w6 w')
          (first | with_reducible exact keep6 HC.out.1 HC.out.2.1 ((Below.refl _ _).drew) | (go_split_ands; with_reducible exact keep6 HC.out.1 HC.out.2.1 hk7) | (go_split_ands; exact keep6 HC.out.1 HC.out.2.1 (below_alloc_next (by assumption))) | (go_split_ands; exact keep6 HC.out.1 HC.out.2.1 (below_set3 (by assumption) (by first | exact Nat.le_refl _ | assumption) _ _ _)))
          (first | (go_at_call_of 111 (Value.slice ga gl gc); go_split_ands; refine (HC.out.2.2 _ (by assumption)).mono ?_; rintro e w7 ⟨v7, rfl, hv7, hb7⟩; obtain ⟨p7, q7, s7, rfl⟩ := hv7.shape; have hk7 : Below w6.heap.size w6 w7 := below_next (by assumption) hb7; have z7 : w6.heap.size ≤ w7.heap.size := Below.size hk7; obtain ⟨bc7, bf7⟩ := bcell hb7; (try (have z3 : w6.heap.size < w7.heap.size := (by have hh := hb7.size; simp at hh; omega)))))
        all_goals
          go_wp2_with fail
          go_meet
        case rel => exact ⟨_, p7, q7, s7, rfl, BoxV.new w7 w6.heap.size 60 z7 [.bool ng1, .slice none 0 0, .slice p7 q7 s7], hv7.below (below_alloc1 _ _), below_alloc_next hk7⟩
        case rel =>
          have hx := ((BoxV.new w6 w6.heap.size 60 (Nat.le_refl _) [.bool false, .slice none 0 0, .slice none 0 0]).below (below_drewN (Below.refl _ _) 1)).below hb7
          exact ⟨_, p7, q7, s7, rfl, hx.store3 _ _ _, hv7.other hx noLimb_nil3 (grown_set3 _ _ _ _ _), below_set3 hk7 (Nat.le_refl _) _ _ _⟩
      case rest =>
        obtain ⟨g3, pd, qd, sd, rfl, hB3, hNd, hbe⟩ := hcut
        have hbm := below_next HL.out.2.2 hbe
        have hB4 := HB.out.2.2.2.2.2.2.below hbm
        have hbw := below_next' HB.out.2.2.2.2.2.1 hbm
        have hNl := HL.out.1.below hbe
        have hNr := HL.out.2.1.below hbe
        obtain ⟨⟨k0, k1, k2⟩, _⟩ := (HC.out.1.below hbe).three
        obtain ⟨⟨k3, k4, k5⟩, _⟩ := (HC.out.2.1.below hbe).three
        obtain ⟨⟨j0, j1, j2⟩, o0, o1, o2⟩ := hB3.three
        have HE := Lib.hid (And.intro hbw (And.intro hB4 (And.intro hB3 (And.intro hNd (And.intro hNl hNr)))))
        have HOLD := Lib.hid hbe
        clear hbm hB4 hbw hNl hNr hNd hB3 hbe
        by_cases hng : ng1 = ng2
        · have hb : (ng1 == ng2) = true := by simp [hng]
          have HG := Lib.hid hng
          clear hng
          go_wp2_with fail
          refine (Nt.add HE.out.2.2.2.2.1 HE.out.2.2.2.2.2 HS.out.1 HS.out.2.1 (by omega)).mono ?_
          rintro e w8 ⟨v8, rfl, hv8, hb8⟩
          obtain ⟨p8, q8, s8, rfl⟩ := hv8.shape
          have hB3' := HE.out.2.2.1.below hb8
          obtain ⟨⟨j0, j1, j2⟩, o0, o1, o2⟩ := hB3'.three
          have HN := Lib.hid (And.intro hv8 (And.intro hb8 hB3'))
          clear hv8 hb8 hB3'
          go_wp2_with fail
          obtain ⟨hv8, hb8, hB3'⟩ := HN.out
          have hG := grown_setCell (World.grownBy.refl w8 (some g3)) (o := 1) (.slice p8 q8 s8)
          have hz : w.heap.size + 1 + 1 < wm.heap.size := HB.out.2.2.2.2.2.2.block.2
          have hz6 : wm.heap.size ≤ w6.heap.size := HL.out.2.2.size
          have hz3 := hB3'.block.1
          have hnl := noLimb_bool ng1 pd qd sd
          have m1 := hv8.other hB3' hnl hG
          have m2 := (HE.out.2.2.2.1.below hb8).other hB3' hnl hG
          have m3 := (HE.out.2.1.below hb8).kept hG (by simp; omega)
          have m4 : Below w.heap.size w (w8.setCell ⟨g3, 1, none⟩ (.slice p8 q8 s8)) := (below_next' HE.out.1 hb8).setCell (p := ⟨g3, 1, none⟩) (by show w.heap.size ≤ g3; omega) _
          have hq := rat_add_same ng1 (a := fn) (c := gn) HS.out.2.2.2.2.1 HS.out.2.2.2.2.2.1
          have e2 : rat ng1 gn gd = q := by rw [HG.out]; exact HS.out.2.2.2.2.2.2.2
          rw [HS.out.2.2.2.2.2.2.1, e2] at hq
          clear e2
          have hn9 : fn * gd + gn * fd < pw (k + 1 + (k + 1) + 1) := by
            have h1 := HS.out.1
            have h2 := HS.out.2.1
            rw [pw_succ]
            omega
          generalize w8.setCell ⟨g3, 1, none⟩ (.slice p8 q8 s8) = W9 at m1 m2 m3 m4 ⊢
          clear hv8 hb8 hB3' hG hz hz3 hnl HN j0 j1 j2 o0 o1 o2 k0 k1 k2 k3 k4 k5
          have hd9 : fd * gd < pw (k + 1 + (k + 1) + 1) := Nat.lt_of_lt_of_le HS.out.2.2.1 (pw_le (by omega))
          refine (canonical_any _ _ _ _ _ _ _ _ _ (k + 1 + (k + 1) + 1) W9 m1 m2 HS.out.2.2.2.1 hn9 hd9 (by omega)).mono ?_
          rintro e w3 ⟨v, rfl, hv, hb3⟩
          rw [← hq] at hv
          have hbw3 := below_next' m4 hb3
          have hB5 := m3.below hb3
          clear m1 m2 m3 m4 hb3 hq hn9 hd9
          obtain ⟨yn, yl, yc, dn, dl, dc, rfl, hzn, hzd⟩ := hv
          obtain ⟨⟨y0, y1, y2⟩, i0, i1, i2⟩ := hB5.three
          have HF := Lib.hid (And.intro hzn (And.intro hzd (And.intro hbw3 hB5)))
          clear hzn hzd hbw3 hB5
          go_wp2
          obtain ⟨hzn, hzd, hbw3, hB5⟩ := HF.out
          refine bodyPost_ret (v := .agg #[.bool (decide ((p + q).num < 0)), .slice yn yl yc, .slice dn dl dc]) (by simp [results, Try.results70, go_sem, y0, y1, y2]) rfl ⟨_, rfl, ?_, below_set3 hbw3 (by omega) _ _ _⟩
          exact RatC.other (⟨yn, yl, yc, dn, dl, dc, rfl, hzn, hzd⟩ : RatC w3 _ (p + q)) hB5 noLimb_nil3 (grown_set3 _ _ _ _ _)
        · have hb : (ng1 == ng2) = false := by simpa using hng
          have HG := Lib.hid hng
          clear hng
          go_wp2_with fail
          refine (Nt.cmp HE.out.2.2.2.2.1 HE.out.2.2.2.2.2).mono ?_
          rintro e wc' ⟨rfl, hbc⟩
          have hE1 := below_next' HE.out.1 hbc
          have hE2 := HE.out.2.1.below hbc
          have hE3 := HE.out.2.2.1.below hbc
          have hE4 := HE.out.2.2.2.1.below hbc
          have hE5 := HE.out.2.2.2.2.1.below hbc
          have hE6 := HE.out.2.2.2.2.2.below hbc
          obtain ⟨⟨k0, k1, k2⟩, _⟩ := ((HC.out.1.below HOLD.out).below hbc).three
          obtain ⟨⟨k3, k4, k5⟩, _⟩ := ((HC.out.2.1.below HOLD.out).below hbc).three
          obtain ⟨⟨j0, j1, j2⟩, o0, o1, o2⟩ := hE3.three
          have HWC := Lib.hid (below_next HOLD.out hbc)
          clear HE hbc
          have HE := Lib.hid (And.intro hE1 (And.intro hE2 (And.intro hE3 (And.intro hE4 (And.intro hE5 hE6)))))
          clear hE1 hE2 hE3 hE4 hE5 hE6
          by_cases hle : gn * fd ≤ fn * gd
          · have hc : cmpI ((fn * gd : Nat)) ((gn * fd : Nat)) = 0 ∨ cmpI ((fn * gd : Nat)) ((gn * fd : Nat)) = 1 := by
              unfold cmpI
              split
              · omega
              · split
                · exact .inr rfl
                · exact .inl rfl
            have hb' : (0 : Int) ≤ cmpI ((fn * gd : Nat)) ((gn * fd : Nat)) := by omega
            generalize cmpI ((fn * gd : Nat)) ((gn * fd : Nat)) = cv at hb' hc ⊢
            have HLE := Lib.hid hle
            clear hle hc
            go_wp2_with fail
            refine (Nt.sub HE.out.2.2.2.2.1 HE.out.2.2.2.2.2 HS.out.1 (by omega) HLE.out).mono ?_
            rintro e w8 ⟨v8, rfl, hv8, hb8⟩
            obtain ⟨p8, q8, s8, rfl⟩ := hv8.shape
            have hB3' := HE.out.2.2.1.below hb8
            obtain ⟨⟨j0, j1, j2⟩, o0, o1, o2⟩ := hB3'.three
            have HN := Lib.hid (And.intro hv8 (And.intro hb8 hB3'))
            clear hv8 hb8 hB3'
            go_wp2_with fail
            obtain ⟨hv8, hb8, hB3'⟩ := HN.out
            have hG := grown_setCell (World.grownBy.refl w8 (some g3)) (o := 1) (.slice p8 q8 s8)
            have hz : w.heap.size + 1 + 1 < wm.heap.size := HB.out.2.2.2.2.2.2.block.2
            have hz6 : wm.heap.size ≤ w6.heap.size := HL.out.2.2.size
            have hz3 := hB3'.block.1
            have hnl := noLimb_bool ng1 pd qd sd
            have m1 := hv8.other hB3' hnl hG
            have m2 := (HE.out.2.2.2.1.below hb8).other hB3' hnl hG
            have m3 := (HE.out.2.1.below hb8).kept hG (by simp; omega)
            have m4 : Below w.heap.size w (w8.setCell ⟨g3, 1, none⟩ (.slice p8 q8 s8)) := (below_next' HE.out.1 hb8).setCell (p := ⟨g3, 1, none⟩) (by show w.heap.size ≤ g3; omega) _
            have hq := rat_add_more HG.out (a := fn) (c := gn) HS.out.2.2.2.2.1 HS.out.2.2.2.2.2.1 HLE.out
            rw [HS.out.2.2.2.2.2.2.1, HS.out.2.2.2.2.2.2.2] at hq
            have hn9 : fn * gd - gn * fd < pw (k + 1 + (k + 1) + 1) := by
              have h1 := HS.out.1
              rw [pw_succ]
              omega
            generalize w8.setCell ⟨g3, 1, none⟩ (.slice p8 q8 s8) = W9 at m1 m2 m3 m4 ⊢
            clear hv8 hb8 hB3' hG hz hz3 hnl HN j0 j1 j2 o0 o1 o2 k0 k1 k2 k3 k4 k5
            have hd9 : fd * gd < pw (k + 1 + (k + 1) + 1) := Nat.lt_of_lt_of_le HS.out.2.2.1 (pw_le (by omega))
            refine (canonical_any _ _ _ _ _ _ _ _ _ (k + 1 + (k + 1) + 1) W9 m1 m2 HS.out.2.2.2.1 hn9 hd9 (by omega)).mono ?_
            rintro e w3 ⟨v, rfl, hv, hb3⟩
            rw [← hq] at hv
            have hbw3 := below_next' m4 hb3
            have hB5 := m3.below hb3
            clear m1 m2 m3 m4 hb3 hq hn9 hd9
            obtain ⟨yn, yl, yc, dn, dl, dc, rfl, hzn, hzd⟩ := hv
            obtain ⟨⟨y0, y1, y2⟩, i0, i1, i2⟩ := hB5.three
            have HF := Lib.hid (And.intro hzn (And.intro hzd (And.intro hbw3 hB5)))
            clear hzn hzd hbw3 hB5
            go_wp2
            obtain ⟨hzn, hzd, hbw3, hB5⟩ := HF.out
            refine bodyPost_ret (v := .agg #[.bool (decide ((p + q).num < 0)), .slice yn yl yc, .slice dn dl dc]) (by simp [results, Try.results70, go_sem, y0, y1, y2]) rfl ⟨_, rfl, ?_, below_set3 hbw3 (by omega) _ _ _⟩
            exact RatC.other (⟨yn, yl, yc, dn, dl, dc, rfl, hzn, hzd⟩ : RatC w3 _ (p + q)) hB5 noLimb_nil3 (grown_set3 _ _ _ _ _)
          · have hlt : cmpI ((fn * gd : Nat)) ((gn * fd : Nat)) = -1 := by
              unfold cmpI
              rw [if_pos (by omega)]
            rw [hlt]
            have HLE := Lib.hid hle
            clear hle hlt
            go_wp2_with fail
            have hsub := fun W (hW : Below wc'.heap.size wc' W) => Nt.sub (HE.out.2.2.2.2.2.below hW) (HE.out.2.2.2.2.1.below hW) HS.out.2.1 (by omega) (Nat.le_of_lt (Nat.lt_of_not_le HLE.out))
            have HU := Lib.hid hsub
            clear hsub
            have hz3 := HE.out.2.2.1.block.1
            go_region_held3 (fun w' => w'.cell? ⟨g2, 0, none⟩ = some (.bool ng2) ∧ Below w6.heap.size w6 w')
              (first | with_reducible exact keep1 HC.out.2.1 (HWC.out.drew) | (go_split_ands; exact keep1 HC.out.2.1 (Below.setCell (by assumption) (p := ⟨g3, 1, none⟩) hz3 _)) | (go_split_ands; exact keep1 HC.out.2.1 (Below.setCell (by assumption) (p := ⟨g3, 0, none⟩) hz3 _)) | (go_split_ands; exact keep1 HC.out.2.1 (below_next HWC.out hb8')))
              (first | (go_at_call 114; refine (HU.out _ ((Below.refl _ _).drew)).mono ?_; rintro e w8 ⟨v8, rfl, hv8, hb8⟩; obtain ⟨p8, q8, s8, rfl⟩ := hv8.shape; have hb8' := below_next ((Below.refl wc'.heap.size wc').drew) hb8; have hB3' := HE.out.2.2.1.below hb8'; obtain ⟨⟨l0, l1, l2⟩, o0', o1', o2'⟩ := hB3'.three))
            all_goals go_wp2_with fail
            have hG := grown_setCell (grown_setCell (World.grownBy.refl w8 (some g3)) (o := 0) (.bool ng2)) (o := 1) (.slice p8 q8 s8)
            have hz : w.heap.size + 1 + 1 < wm.heap.size := HB.out.2.2.2.2.2.2.block.2
            have hz6 : wm.heap.size ≤ w6.heap.size := HL.out.2.2.size
            have hz3 := hB3'.block.1
            have hnl := noLimb_bool ng1 pd qd sd
            have m1 := hv8.other hB3' hnl hG
            have m2 := (HE.out.2.2.2.1.below hb8').other hB3' hnl hG
            have m3 := (HE.out.2.1.below hb8').kept hG (by simp; omega)
            have m4 : Below w.heap.size w ((w8.setCell ⟨g3, 0, none⟩ (.bool ng2)).setCell ⟨g3, 1, none⟩ (.slice p8 q8 s8)) := ((below_next' HE.out.1 hb8').setCell (p := ⟨g3, 0, none⟩) (by show w.heap.size ≤ g3; omega) _).setCell (p := ⟨g3, 1, none⟩) (by show w.heap.size ≤ g3; omega) _
            have hq := rat_add_less HG.out (a := fn) (c := gn) HS.out.2.2.2.2.1 HS.out.2.2.2.2.2.1 (Nat.le_of_lt (Nat.lt_of_not_le HLE.out))
            rw [HS.out.2.2.2.2.2.2.1, HS.out.2.2.2.2.2.2.2] at hq
            have hn9 : gn * fd - fn * gd < pw (k + 1 + (k + 1) + 1) := by
              have h1 := HS.out.2.1
              rw [pw_succ]
              omega
            generalize (w8.setCell ⟨g3, 0, none⟩ (.bool ng2)).setCell ⟨g3, 1, none⟩ (.slice p8 q8 s8) = W9 at m1 m2 m3 m4 ⊢
            clear hv8 hb8 hb8' hB3' hG hz hz3 hnl j0 j1 j2 o0 o1 o2 k0 k1 k2 k3 k4 k5 l0 l1 l2 o0' o1' o2'
            have hd9 : fd * gd < pw (k + 1 + (k + 1) + 1) := Nat.lt_of_lt_of_le HS.out.2.2.1 (pw_le (by omega))
            refine (canonical_any _ _ _ _ _ _ _ _ _ (k + 1 + (k + 1) + 1) W9 m1 m2 HS.out.2.2.2.1 hn9 hd9 (by omega)).mono ?_
            rintro e w3 ⟨v, rfl, hv, hb3⟩
            rw [← hq] at hv
            have hbw3 := below_next' m4 hb3
            have hB5 := m3.below hb3
            clear m1 m2 m3 m4 hb3 hq hn9 hd9
            obtain ⟨yn, yl, yc, dn, dl, dc, rfl, hzn, hzd⟩ := hv
            obtain ⟨⟨y0, y1, y2⟩, i0, i1, i2⟩ := hB5.three
            have HF := Lib.hid (And.intro hzn (And.intro hzd (And.intro hbw3 hB5)))
            clear hzn hzd hbw3 hB5
            go_wp2
            obtain ⟨hzn, hzd, hbw3, hB5⟩ := HF.out
            refine bodyPost_ret (v := .agg #[.bool (decide ((p + q).num < 0)), .slice yn yl yc, .slice dn dl dc]) (by simp [results, Try.results70, go_sem, y0, y1, y2]) rfl ⟨_, rfl, ?_, below_set3 hbw3 (by omega) _ _ _⟩
            exact RatC.other (⟨yn, yl, yc, dn, dl, dc, rfl, hzn, hzd⟩ : RatC w3 _ (p + q)) hB5 noLimb_nil3 (grown_set3 _ _ _ _ _)
  · obtain ⟨q1, q2, l1, l2, l3, l4, l5, l6, l7, l8⟩ := HX.out.2.2.2.2.1 (by first | trivial | rfl)
    obtain ⟨r1, r2⟩ := prod_in l1 l2 (by omega) l8
    obtain ⟨r5, r6⟩ := prod_in l5 l6 (by omega) l4
    obtain ⟨r3, r4⟩ := prod_in (a := b) (c := d) (by omega) l4 (by omega) l8
    have hp1 : IntKind.i64.wrap (a * d) = a * d := wrap_in (by omega) (by omega)
    have hp3 : IntKind.i64.wrap (c * b) = c * b := wrap_in (by omega) (by omega)
    have hp4 : IntKind.i64.wrap (a * d + c * b) = a * d + c * b := wrap_in (by omega) (by omega)
    have hp2 : IntKind.i64.wrap (b * d) = b * d := wrap_in (by omega) (by omega)
    have hq := quo_add (a := a) (c := c) l3 l7
    rw [q1, q2] at hq
    have HQ := Lib.hid (And.intro hq (And.intro r1 (And.intro r2 (And.intro r3 (And.intro r4 (And.intro r5 r6))))))
    clear q1 q2 hq r1 r2 r3 r4 r5 r6 l1 l2 l3 l4 l5 l6 l7 l8
    go_wp2_with fail
    have hA1 : Below W0.heap.size W0 ((w1.alloc (.cells #[.int .i64 a, .int .i64 b] 104)).alloc (.cells #[.int .i64 c, .int .i64 d] 104)) := below_next HX.out.2.2.2.2.2 (below_alloc2 _ _ _)
    refine (small_any (a * d + c * b) (b * d) _ (by have := HQ.out; omega) (by have := HQ.out; omega) (by have := HQ.out; omega) (by have := HQ.out; omega)).mono ?_
    rintro e w3 ⟨v, rfl, hv, hb3⟩
    rw [← HQ.out.1] at hv
    have hbb := below_next hA1 hb3
    clear hA1 hb3
    obtain ⟨zn, zl, zc, dn, dl, dc, rfl, hzn, hzd⟩ := hv
    obtain ⟨⟨y0, y1, y2⟩, i0, i1, i2⟩ := (HX.out.2.2.2.1.below hbb).three
    have HF := Lib.hid (And.intro hzn hzd)
    have HBH := Lib.hid (hbb)
    clear hzn hzd hbb
    go_wp2
    obtain ⟨hzn, hzd⟩ := HF.out
    obtain ⟨hbw, hb0, hb1, hb2, hok, hw1⟩ := HX.out
    refine bodyPost_ret (v := .agg #[.bool (decide ((p + q).num < 0)), .slice zn zl zc, .slice dn dl dc]) (by simp [results, Try.results70, go_sem, y0, y1, y2]) rfl ⟨_, rfl, ?_, below_set3 (below_next' hbw HBH.out) (by omega) _ _ _⟩
    exact RatC.other (⟨zn, zl, zc, dn, dl, dc, rfl, hzn, hzd⟩ : RatC w3 _ (p + q)) (hb2.below HBH.out) noLimb_nil3 (grown_set3 _ _ _ _ _)

end Go.Proofs.Ytdpiclmjdcjajaa
