/-
  The walk of Mul: at most 20000 limbs.
-/
import Derived.Test.YtdpiclmjdcjajaaR7
namespace Go.Proofs.Ytdpiclmjdcjajaa
open Go.RowKit Num

theorem rat_mul (s t : Bool) (a b c d : Nat) : rat s a b * rat t c d = rat (s != t) (a * c) (b * d) := by
  unfold rat
  rw [Rat.mkRat_mul_mkRat]
  congr 1
  cases s <;> cases t <;> simp [Int.mul_neg, Int.neg_mul]

theorem quo_mul {a b c d : Int} (hb : 1 ≤ b) (hd : 1 ≤ d) : quo a b * quo c d = quo (a * c) (b * d) := by
  have h : 1 ≤ b * d := Int.mul_pos (by omega) (by omega)
  rw [quo_mk hb, quo_mk hd, quo_mk h, Rat.mkRat_mul_mkRat, Int.natAbs_mul]

theorem prod_in {a c : Int} (h1 : -999999999 ≤ a) (h2 : a ≤ 999999999) (h3 : -999999999 ≤ c) (h4 : c ≤ 999999999) : -999999998000000001 ≤ a * c ∧ a * c ≤ 999999998000000001 := by
  have h : (a * c).natAbs ≤ 999999999 * 999999999 := by
    rw [Int.natAbs_mul]
    exact Nat.mul_le_mul (by omega) (by omega)
  omega

theorem fracR_set {w w6 : World} {h k n d : Nat} {q : Rat} {ng : Bool} {p5 p6 : Option Addr} {q5 s5 q6 s6 : Nat} (hx : BoxV w6 w.heap.size h 60 [.bool false, .slice none 0 0, .slice none 0 0]) (h1 : Nt w6 (.slice p5 q5 s5) n) (h2 : Nt w6 (.slice p6 q6 s6) d) (hd : 0 < d) (hn : n < pw k) (hdk : d < pw k) (hq : rat ng n d = q) (hb : Below w.heap.size w w6) :
    FracR w k q (.pointer (some ⟨h, 0, none⟩)) (((w6.setCell ⟨h, 0, none⟩ (.bool ng)).setCell ⟨h, 1, none⟩ (.slice p5 q5 s5)).setCell ⟨h, 2, none⟩ (.slice p6 q6 s6)) ∧ Below w.heap.size w (((w6.setCell ⟨h, 0, none⟩ (.bool ng)).setCell ⟨h, 1, none⟩ (.slice p5 q5 s5)).setCell ⟨h, 2, none⟩ (.slice p6 q6 s6)) :=
  ⟨⟨h, ng, p5, q5, s5, p6, q6, s6, n, d, rfl, hx.store3 _ _ _, h1.other hx noLimb_nil3 (grown_set3 _ _ _ _ _), h2.other hx noLimb_nil3 (grown_set3 _ _ _ _ _), hd, hn, hdk, hq⟩, below_set3 hb hx.block.1 _ _ _⟩

theorem fracR_new {w w6 : World} {k n d : Nat} {q : Rat} {ng : Bool} {p5 p6 : Option Addr} {q5 s5 q6 s6 : Nat} (h1 : Nt w6 (.slice p5 q5 s5) n) (h2 : Nt w6 (.slice p6 q6 s6) d) (hd : 0 < d) (hn : n < pw k) (hdk : d < pw k) (hq : rat ng n d = q) (hb : Below w.heap.size w w6) :
    FracR w k q (.pointer (some ⟨w6.heap.size, 0, none⟩)) (w6.alloc (.cells #[.bool ng, .slice p5 q5 s5, .slice p6 q6 s6] 60)) ∧ Below w.heap.size w (w6.alloc (.cells #[.bool ng, .slice p5 q5 s5, .slice p6 q6 s6] 60)) :=
  ⟨⟨_, ng, p5, q5, s5, p6, q6, s6, n, d, rfl, BoxV.new w6 w.heap.size 60 hb.size [.bool ng, .slice p5 q5 s5, .slice p6 q6 s6], h1.below (below_alloc1 _ _), h2.below (below_alloc1 _ _), hd, hn, hdk, hq⟩, hb.alloc hb.size _⟩

theorem alloc3_box (w : World) (a b c : List Value) (t : Nat) :
    BoxV (((w.alloc (.cells a.toArray t)).alloc (.cells b.toArray t)).alloc (.cells c.toArray t)) w.heap.size w.heap.size t a ∧
    BoxV (((w.alloc (.cells a.toArray t)).alloc (.cells b.toArray t)).alloc (.cells c.toArray t)) w.heap.size (w.heap.size + 1) t b ∧
    BoxV (((w.alloc (.cells a.toArray t)).alloc (.cells b.toArray t)).alloc (.cells c.toArray t)) w.heap.size (w.heap.size + 1 + 1) t c := by
  refine ⟨((BoxV.new w w.heap.size t (Nat.le_refl _) a).alloc _).alloc _, ?_, ?_⟩
  · have := (BoxV.new (w.alloc (.cells a.toArray t)) w.heap.size t (by simp) b).alloc (.cells c.toArray t)
    simpa using this
  · have := BoxV.new ((w.alloc (.cells a.toArray t)).alloc (.cells b.toArray t)) w.heap.size t (by simp; omega) c
    simpa using this

theorem pw_prod {k n m : Nat} (hn : n < pw k) (hm : m < pw k) : n * m < pw (k + k) := by
  rw [pw_add]
  exact Nat.mul_lt_mul_of_lt_of_lt hn hm

set_option maxRecDepth 100000 in
set_option maxHeartbeats 8000000 in
theorem mul_any (na nb : Bool) (an ad bn bd : Option Addr) (n1 c1 n2 c2 m1 e1 m2 e2 k : Nat) (p q : Rat) (w : World) (hp : RatV w na an n1 c1 ad n2 c2 k p) (hq : RatV w nb bn m1 e1 bd m2 e2 k q) (hk : k ≤ 20000) :
    Calls Try.prog 73 #[.agg #[.bool na, .slice an n1 c1, .slice ad n2 c2], .agg #[.bool nb, .slice bn m1 e1, .slice bd m2 e2]] w (RatP (p * q) w) := by
  have hc0 := fun W (hW : Below w.heap.size w W) => pair_any na nb an ad bn bd n1 c1 n2 c2 m1 e1 m2 e2 k p q W (hp.below hW) (hq.below hW)
  have hr1 := fun W (hW : Below w.heap.size w W) => readV (hp.below hW) (by omega)
  have hr2 := fun W (hW : Below w.heap.size w W) => readV (hq.below hW) (by omega)
  have HA := Lib.hid (And.intro hc0 (And.intro hr1 hr2))
  clear hp hq hc0 hr1 hr2
  go_enter Try.func73, Try.ntmps73
  go_wp2_with fail
  obtain ⟨W0, hW0⟩ : ∃ W0, ((w.alloc (.cells #[.bool na, .slice an n1 c1, .slice ad n2 c2] 24)).alloc (.cells #[.bool nb, .slice bn m1 e1, .slice bd m2 e2] 24)).alloc (.cells #[.bool false, .slice none 0 0, .slice none 0 0] 24) = W0 := ⟨_, rfl⟩
  have hbw : Below w.heap.size w W0 := by rw [← hW0]; exact below_alloc3 _ _ _ _
  obtain ⟨hb0, hb1, hb2⟩ := alloc3_box w [.bool na, .slice an n1 c1, .slice ad n2 c2] [.bool nb, .slice bn m1 e1, .slice bd m2 e2] [.bool false, .slice none 0 0, .slice none 0 0] 24
  simp only [hW0] at hb0 hb1 hb2
  rw [hW0]
  clear hW0
  refine (HA.out.1 _ hbw).mono ?_
  rintro e w1 ⟨a, b, c, d, ok, rfl, hok, hw1⟩
  have hz1 : w.heap.size + 1 + 1 < w1.heap.size := (hb2.below hw1).block.2
  have hz2 : w.heap.size < w1.heap.size := by omega
  have hz3 : w.heap.size + 1 < w1.heap.size := by omega
  have HX := Lib.hid (And.intro hbw (And.intro hb0 (And.intro hb1 (And.intro hb2 (And.intro hok hw1)))))
  obtain ⟨⟨x0, x1, x2⟩, _⟩ := (hb0.below hw1).three
  obtain ⟨⟨y0, y1, y2⟩, _⟩ := (hb1.below hw1).three
  obtain ⟨⟨t0, t1, t2⟩, i0, i1, i2⟩ := (hb2.below hw1).three
  clear hbw hb0 hb1 hb2 hok hw1
  cases ok
  · go_wp2_with fail
    have hW2 : Below W0.heap.size W0 ((w1.alloc (.cells #[.int .i64 a, .int .i64 b] 104)).alloc (.cells #[.int .i64 c, .int .i64 d] 104)) := below_next HX.out.2.2.2.2.2 (below_alloc2 _ _ _)
    obtain ⟨W2, hW2e⟩ : ∃ W2, (w1.alloc (.cells #[.int .i64 a, .int .i64 b] 104)).alloc (.cells #[.int .i64 c, .int .i64 d] 104) = W2 := ⟨_, rfl⟩
    rw [hW2e] at hW2 ⊢
    clear hW2e x0 x1 x2 y0 y1 y2 t0 t1 t2 i0 i1 i2
    have hww : Below w.heap.size w W2 := below_next' HX.out.1 hW2
    have hB0 := HX.out.2.1.below hW2
    have hB1 := HX.out.2.2.1.below hW2
    have hB2 := HX.out.2.2.2.1.below hW2
    have HZ := Lib.hid (And.intro hww (And.intro hB0 (And.intro hB1 hB2)))
    clear hww hB0 hB1 hB2 hW2 HX
    go_cut [8, 9] (fun s10 s11 wx => TwoR W2 (k + 1) p q s10 s11 wx)
    case first =>
      refine two_reads_at (k := k + 1) (p := p) (q := q) 2 3 30 31 32 33 8 9 "rational.go:129" 4 (by decide) (by decide) (by decide) (by simp) HZ.out.2.1 HZ.out.2.2.1 (fun W hW => HA.out.2.1 W (below_next' HZ.out.1 hW)) (fun W hW => HA.out.2.2 W (below_next' HZ.out.1 hW)) rfl rfl ?_
      intro v1 v2 v3 v4 vx vy wx hT
      have hR := hT.out
      clear hT
      unfold six
      go_simp
      go_wp2_with fail
      go_meet
      exact hR
    case rest =>
      obtain ⟨wm, rfl⟩ : ∃ wm, wm = wc := ⟨_, rfl⟩
      obtain ⟨⟨g1, ng1, fa, fl, fc, ga, gl, gc, fn, fd, rfl, hB1, hf1, hf2, hf3, hf4, hf5, hf6⟩, ⟨g2, ng2, ia, il, ic, ja, jl, jc, gn, gd, rfl, hB2, hg1, hg2, hg3, hg4, hg5, hg6⟩, hBw⟩ := hcut
      have hm1 := fun W (hW : Below wm.heap.size wm W) => Nt.mul (hf1.below hW) (hg1.below hW) hf4 hg4 (by omega)
      have hm2 := fun W (hW : Below wm.heap.size wm W) => Nt.mul (hf2.below hW) (hg2.below hW) hf5 hg5 (by omega)
      have hq := rat_mul ng1 ng2 fn fd gn gd
      rw [hf6, hg6] at hq
      have hs1 := pw_prod hf4 hg4
      have hs2 := pw_prod hf5 hg5
      have hd0 : 0 < fd * gd := Nat.mul_pos hf3 hg3
      obtain ⟨⟨k0, k1, k2⟩, _⟩ := hB1.three
      obtain ⟨⟨k3, k4, k5⟩, _⟩ := hB2.three
      have hbw := below_next' HZ.out.1 hBw
      have hB4 := HZ.out.2.2.2.below hBw
      have HB := Lib.hid (And.intro hB1 (And.intro hB2 (And.intro hm1 (And.intro hm2 (And.intro hbw (And.intro hB4 (And.intro hq (And.intro hs1 (And.intro hs2 hd0)))))))))
      clear hB1 hB2 hm1 hm2 hbw hB4 hq hs1 hs2 hd0 hf1 hf2 hf3 hf4 hf5 hf6 hg1 hg2 hg3 hg4 hg5 hg6 hBw
      go_wp2_with fail
      go_cut [10] (fun s10 wx => FracR wm (k + 1 + (k + 1)) (p * q) s10 wx ∧ Below wm.heap.size wm wx)
      case first =>
        go_region_held3 (fun w' => w'.cell? ⟨g1, 0, none⟩ = some (.bool ng1) ∧ w'.cell? ⟨g1, 1, none⟩ = some (.slice fa fl fc) ∧ w'.cell? ⟨g1, 2, none⟩ = some (.slice ga gl gc) ∧ w'.cell? ⟨g2, 0, none⟩ = some (.bool ng2) ∧ w'.cell? ⟨g2, 1, none⟩ = some (.slice ia il ic) ∧ w'.cell? ⟨g2, 2, none⟩ = some (.slice ja jl jc) ∧ Below wm.heap.size wm w')
          (first | with_reducible exact keep6 HB.out.1 HB.out.2.1 ((Below.refl _ _).drew) | (go_split_ands; with_reducible exact keep6 HB.out.1 HB.out.2.1 hk6) | (go_split_ands; with_reducible exact keep6 HB.out.1 HB.out.2.1 hk5) | (go_split_ands; exact keep6 HB.out.1 HB.out.2.1 (below_alloc_next (by assumption))) | (go_split_ands; exact keep6 HB.out.1 HB.out.2.1 (below_set3 (by assumption) (by first | exact Nat.le_refl _ | assumption) _ _ _)))
          (first
            | (go_at_call_of 111 (Value.slice fa fl fc); go_split_ands; refine (HB.out.2.2.1 _ (by assumption)).mono ?_; rintro e w5 ⟨v5, rfl, hv5, hb5⟩; obtain ⟨p5, q5, s5, rfl⟩ := hv5.shape; have hk5 : Below wm.heap.size wm w5 := below_next (by assumption) hb5; have z5 : wm.heap.size ≤ w5.heap.size := Below.size hk5; obtain ⟨bc5, bf5⟩ := bcell hb5; (try (have z3 : wm.heap.size < w5.heap.size := (by have hh := hb5.size; simp at hh; omega))))
            | (go_at_call_of 111 (Value.slice ga gl gc); go_split_ands; refine (HB.out.2.2.2.1 _ (by assumption)).mono ?_; rintro e w6 ⟨v6, rfl, hv6, hb6⟩; obtain ⟨p6, q6, s6, rfl⟩ := hv6.shape; have hk6 : Below wm.heap.size wm w6 := below_next (by assumption) hb6; obtain ⟨bc6, bf6⟩ := bcell hb6))
        all_goals
          go_wp2_with fail
          go_meet
        case rel =>
          obtain ⟨_, _, _, _, _, _, hq, hs1, hs2, hd0⟩ := HB.out
          exact fracR_new (hv5.below hb6) hv6 hd0 hs1 hs2 hq.symm hk6
        case rel =>
          obtain ⟨_, _, _, _, _, _, hq, hs1, hs2, hd0⟩ := HB.out
          exact fracR_set ((BoxV.new w5 wm.heap.size 60 hk5.size [.bool false, .slice none 0 0, .slice none 0 0]).below hb6) (hv5.below (below_next (below_alloc1 _ _) hb6)) hv6 hd0 hs1 hs2 hq.symm hk6
        case rel =>
          obtain ⟨_, _, _, _, _, _, hq, hs1, hs2, hd0⟩ := HB.out
          exact fracR_set ((((BoxV.new wm wm.heap.size 60 (Nat.le_refl _) [.bool false, .slice none 0 0, .slice none 0 0]).below (below_drewN (Below.refl _ _) 1)).below hb5).below hb6) (hv5.below hb6) hv6 hd0 hs1 hs2 hq.symm hk6
      case rest =>
        obtain ⟨⟨g3, ng3, pa, pl, pc, ra, rl, rc, zn, zd, rfl, hB3, hz1', hz2', hz3', hz4', hz5', hz6'⟩, hBd⟩ := hcut
        have hbb := below_next' HB.out.2.2.2.2.1 hBd
        have hB4 := HB.out.2.2.2.2.2.1.below hBd
        obtain ⟨⟨k0, k1, k2⟩, _⟩ := hB3.three
        have HD := Lib.hid (And.intro hbb (And.intro hB4 (And.intro hz1' (And.intro hz2' (And.intro hz3' (And.intro hz4' (And.intro hz5' hz6')))))))
        clear hbb hB4 hz1' hz2' hz3' hz4' hz5' hz6' hB3 hBd
        go_wp2_with fail
        obtain ⟨hbb, hB4, hz1', hz2', hz3', hz4', hz5', hz6'⟩ := HD.out
        refine (canonical_any ng3 pa ra pl pc rl rc zn zd (k + 1 + (k + 1)) wc hz1' hz2' hz3' hz4' hz5' (by omega)).mono ?_
        rintro e w3 ⟨v, rfl, hv, hb3⟩
        rw [hz6'] at hv
        have hbw3 := below_next hbb hb3
        have hB5 := hB4.below hb3
        clear hbb hB4 hz1' hz2' hz3' hz4' hz5' hz6' hb3
        obtain ⟨yn, yl, yc, dn, dl, dc, rfl, hzn, hzd⟩ := hv
        obtain ⟨⟨y0, y1, y2⟩, i0, i1, i2⟩ := hB5.three
        have HF := Lib.hid (And.intro hzn (And.intro hzd (And.intro hbw3 hB5)))
        clear hzn hzd hbw3 hB5
        go_wp2
        obtain ⟨hzn, hzd, hbw3, hB5⟩ := HF.out
        refine bodyPost_ret (v := .agg #[.bool (decide ((p * q).num < 0)), .slice yn yl yc, .slice dn dl dc]) (by simp [results, Try.results73, go_sem, y0, y1, y2]) rfl ⟨_, rfl, ?_, below_set3 hbw3 (by omega) _ _ _⟩
        exact RatC.other (⟨yn, yl, yc, dn, dl, dc, rfl, hzn, hzd⟩ : RatC w3 _ (p * q)) hB5 noLimb_nil3 (grown_set3 _ _ _ _ _)
  · obtain ⟨q1, q2, l1, l2, l3, l4, l5, l6, l7, l8⟩ := HX.out.2.2.2.2.1 (by first | trivial | rfl)
    obtain ⟨r1, r2⟩ := prod_in l1 l2 l5 l6
    obtain ⟨r3, r4⟩ := prod_in (a := b) (c := d) (by omega) l4 (by omega) l8
    have hp1 : IntKind.i64.wrap (a * c) = a * c := wrap_in (by omega) (by omega)
    have hp2 : IntKind.i64.wrap (b * d) = b * d := wrap_in (by omega) (by omega)
    have hq := quo_mul (a := a) (c := c) l3 l7
    rw [q1, q2] at hq
    have HQ := Lib.hid (And.intro hq (And.intro r1 (And.intro r2 (And.intro r3 r4))))
    clear q1 q2 hq r1 r2 r3 r4 l1 l2 l3 l4 l5 l6 l7 l8
    go_wp2_with fail
    have hA1 : Below W0.heap.size W0 ((w1.alloc (.cells #[.int .i64 a, .int .i64 b] 104)).alloc (.cells #[.int .i64 c, .int .i64 d] 104)) := below_next HX.out.2.2.2.2.2 (below_alloc2 _ _ _)
    refine (small_any (a * c) (b * d) _ (by have := HQ.out; omega) (by have := HQ.out; omega) (by have := HQ.out; omega) (by have := HQ.out; omega)).mono ?_
    rintro e w3 ⟨v, rfl, hv, hb3⟩
    rw [← HQ.out.1] at hv
    have hbb := below_next hA1 hb3
    clear hA1 hb3
    obtain ⟨zn, zl, zc, dn, dl, dc, rfl, hzn, hzd⟩ := hv
    obtain ⟨⟨y0, y1, y2⟩, i0, i1, i2⟩ := (HX.out.2.2.2.1.below hbb).three
    have HF := Lib.hid (And.intro hzn hzd)
    have HBH := Lib.hid (hbb)
    clear hzn hzd hbb
    go_wp2
    obtain ⟨hzn, hzd⟩ := HF.out
    obtain ⟨hbw, hb0, hb1, hb2, hok, hw1⟩ := HX.out
    refine bodyPost_ret (v := .agg #[.bool (decide ((p * q).num < 0)), .slice zn zl zc, .slice dn dl dc]) (by simp [results, Try.results73, go_sem, y0, y1, y2]) rfl ⟨_, rfl, ?_, below_set3 (below_next' hbw HBH.out) (by omega) _ _ _⟩
    exact RatC.other (⟨zn, zl, zc, dn, dl, dc, rfl, hzn, hzd⟩ : RatC w3 _ (p * q)) (hb2.below HBH.out) noLimb_nil3 (grown_set3 _ _ _ _ _)

end Go.Proofs.Ytdpiclmjdcjajaa
