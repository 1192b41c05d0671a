/-
  The reference's walk of build: a number from its sign, numerator and denominator.
-/
import Derived.Test.YtdpiclmjdcjajaaQ4
import Derived.Test.YtdpiclmjdcjajaaC2
import Derived.Test.YtdpiclmjdcjajaaFlow6
import Derived.Test.YtdpiclmjdcjajaaFlow7
namespace Go.Proofs.Ytdpiclmjdcjajaa
open Go.RowKit Num

theorem one_list {l : List Nat} (hc : Cano l) (h : val l = 1) : l = [1] := by
  refine can_unique hc ⟨fun i => ?_, .inr (by simp [nth])⟩ (by rw [h]; rfl)
  rcases i with _ | i
  · rw [nth_cons_zero]; omega
  · rw [nth_cons_succ, nth_nil]; omega

set_option maxRecDepth 100000 in
set_option maxHeartbeats 4000000 in
theorem build_any (neg : Bool) (u v : Value) (l1 l2 : List Nat) (w : World) (h1 : Lim w u l1) (h2 : Lim w v l2) (n1 : l1.length ≤ 80000) (n2 : l2.length ≤ 80000) :
    Calls Try.prog 54 #[.bool neg, u, v] w (RatP (rat neg (val l1) (val l2)) w) := by
  have s1 : val l1 < pw 80001 := by obtain ⟨_, _, _, _, _, h3, _⟩ := h1; exact val_lt_succ h3 n1
  have s2 : val l2 < pw 80001 := by obtain ⟨_, _, _, _, _, h3, _⟩ := h2; exact val_lt_succ h3 n2
  obtain ⟨ua, un, uc, rfl⟩ : ∃ a n c, u = .slice a n c := by obtain ⟨a, c, e, _⟩ := h1; exact ⟨_, _, _, e⟩
  obtain ⟨va, vn, vc, rfl⟩ : ∃ a n c, v = .slice a n c := by obtain ⟨a, c, e, _⟩ := h2; exact ⟨_, _, _, e⟩
  obtain ⟨K, hK⟩ : ∃ K, K = 80001 := ⟨_, rfl⟩
  rw [← hK] at s1 s2
  have HK := Lib.hid (show K ≤ 90000 by omega)
  obtain ⟨N, hN⟩ : ∃ N, val l1 = N := ⟨_, rfl⟩
  obtain ⟨D, hD⟩ : ∃ D, val l2 = D := ⟨_, rfl⟩
  have hc1 := fun W (hW : Below w.heap.size w W) => nat_any _ l1 W (h1.below hW) (by omega)
  have hc2 := fun W (hW : Below w.heap.size w W) => nat_any _ l2 W (h2.below hW) (by omega)
  rw [hN] at s1 hc1 ⊢
  rw [hD] at s2 hc2 ⊢
  have HA := Lib.hid (And.intro hc1 (And.intro hc2 (And.intro s1 s2)))
  clear h1 h2 n1 n2 s1 s2 hc1 hc2 hN hD hK
  go_enter Try.func54, Try.ntmps54
  go_wp2_with fail
  have hbx := BoxV.new w w.heap.size 24 (Nat.le_refl _) [.bool false, .slice none 0 0, .slice none 0 0]
  have hb0 := below_alloc1 w (.cells #[.bool false, .slice none 0 0, .slice none 0 0] 24)
  have HX := Lib.hid (And.intro hb0 hbx)
  clear hb0 hbx
  refine (HA.out.1 _ HX.out.1).mono ?_
  rintro e w1 ⟨v1, rfl, hn1, hb1⟩
  obtain ⟨a1, m1, c1, rfl⟩ := hn1.shape
  have H1 := Lib.hid (And.intro hn1 (below_next' HX.out.1 hb1))
  have hbx1 := HX.out.2.below hb1
  have HX1 := Lib.hid hbx1
  clear hn1 hb1 hbx1 HX
  go_wp2_with fail
  refine (HA.out.2.1 _ H1.out.2).mono ?_
  rintro e w2 ⟨v2, rfl, hn2, hb2⟩
  obtain ⟨a2, m2, c2, rfl⟩ := hn2.shape
  have H2 := Lib.hid (And.intro (H1.out.1.below hb2) (And.intro hn2 (And.intro (below_next' H1.out.2 hb2) (HX1.out.below hb2))))
  clear hn2 hb2 H1 HX1
  have z1 := nt_len H2.out.1
  have z2 := nt_len H2.out.2.1
  obtain ⟨⟨k0, k1, k2⟩, f0, f1, f2⟩ := H2.out.2.2.2.three
  have hlt := H2.out.2.2.2.block.2
  by_cases hz : N = 0 ∨ D = 0
  · have hcase : m1 = 0 ∨ (m1 ≠ 0 ∧ m2 = 0) := by
      rcases hz with h | h
      · exact .inl (z1.2 h)
      · by_cases h' : m1 = 0
        · exact .inl h'
        · exact .inr ⟨h', z2.2 h⟩
    have HZ : Hid (rat neg N D = 0) := by
      rcases hz with h | h
      · rw [h]; exact rat_zero_num _ _
      · rw [h]; exact rat_zero_den _ _
    clear hz z1 z2
    rcases hcase with rfl | ⟨hm, rfl⟩
    all_goals
      try have hm' : ((m1 : Int) == 0) = false := by rw [beq_eq_false_iff_ne]; omega
      go_wp2
      have hb3 := below_set3 H2.out.2.2.1 (g := w.heap.size) (Nat.le_refl _) (.bool false) (.slice none 0 0) (.slice (some ⟨w2.heap.size, 0, none⟩) 1 1)
      obtain ⟨⟨y0, y1, y2⟩, _⟩ := ((H2.out.2.2.2.store3 (.bool false) (.slice none 0 0) (.slice (some ⟨w2.heap.size, 0, none⟩) 1 1)).alloc (.cells #[.int .u32 1] 58)).three
      refine bodyPost_ret (v := .agg #[.bool false, .slice none 0 0, .slice (some ⟨w2.heap.size, 0, none⟩) 1 1]) (by simp [results, Try.results54, go_sem, y0, y1, y2]) rfl ⟨_, rfl, ?_, hb3.alloc hb3.size _⟩
      rw [HZ.out]
      exact ⟨none, 0, 0, _, 1, 1, rfl, Nt.nil _, lim_one (by rw [World.cell?_alloc_at _ _ _ _ (by simp)]; rfl)⟩
  · have hN0 : 0 < N := by omega
    have hD0 : 0 < D := by omega
    have hm1 : ((m1 : Int) == 0) = false := by rw [beq_eq_false_iff_ne]; have := mt z1.1; omega
    have hm2 : ((m2 : Int) == 0) = false := by rw [beq_eq_false_iff_ne]; have := mt z2.1; omega
    clear hz z1 z2
    go_wp2_with fail
    refine (natGcd_any H2.out.1 H2.out.2.1 HA.out.2.2.1 HA.out.2.2.2 HK.out).mono ?_
    rintro e w3 ⟨v3, rfl, hn3, hb3⟩
    obtain ⟨G, hG⟩ : ∃ G, Nat.gcd N D = G := ⟨_, rfl⟩
    rw [hG] at hn3
    have hG0 : 0 < G := by rw [← hG]; exact Nat.gcd_pos_of_pos_left _ hN0
    obtain ⟨a3, m3, c3, rfl⟩ := hn3.shape
    have hn3' := hn3
    obtain ⟨lg, hlg, cg, vg⟩ := hn3
    have hlen : lg.length = m3 := by
      obtain ⟨_, _, e, _⟩ := hlg
      simp only [Value.slice.injEq] at e
      exact e.2.1.symm
    have H3 := Lib.hid (And.intro (H2.out.1.below hb3) (And.intro (H2.out.2.1.below hb3) (And.intro hn3' (And.intro (below_next' H2.out.2.2.1 hb3) (And.intro (H2.out.2.2.2.below hb3) hG)))))
    have hcase : (G = 1 ∧ m3 = 1 ∧ ∃ b o, a3 = some ⟨b, o, none⟩ ∧ w3.cell? ⟨b, o, none⟩ = some (.int .u32 1)) ∨ (m3 ≠ 1) ∨ (m3 = 1 ∧ ∃ (b o x : Nat), a3 = some ⟨b, o, none⟩ ∧ w3.cell? ⟨b, o, none⟩ = some (.int .u32 (x : Int)) ∧ x ≠ 1) := by
      by_cases h1 : m3 = 1
      · obtain ⟨_, _, e, _, _, _, h4⟩ := hlg
        simp only [Value.slice.injEq] at e
        obtain ⟨b, o, e', hc⟩ := h4 0 (by omega)
        rw [Nat.add_zero] at hc
        by_cases hx : nth lg 0 = 1
        · left
          refine ⟨?_, h1, b, o, e.1.trans e', by rw [hx] at hc; exact hc⟩
          rw [← vg]
          match lg, (hlen.trans h1) with
          | [x], _ => rw [show x = 1 from hx]; rfl
        · exact .inr (.inr ⟨h1, b, o, nth lg 0, e.1.trans e', hc, hx⟩)
      · exact .inr (.inl h1)
    have hbl := hb3.size
    clear hn3' hlg cg vg hlen hb3 hG k0 k1 k2 f0 f1 f2
    have hbx4 := H3.out.2.2.2.2.1
    obtain ⟨⟨k0, k1, k2⟩, f0, f1, f2⟩ := hbx4.three
    have HG0 := Lib.hid hG0
    clear hbx4 hG0
    rcases hcase with ⟨hG1, rfl, b, o, rfl, hc⟩ | hcase
    · have HG1 := Lib.hid hG1
      clear hG1
      go_wp2
      obtain ⟨⟨y0, y1, y2⟩, _⟩ := (H3.out.2.2.2.2.1.store3 (.bool neg) (.slice a1 m1 c1) (.slice a2 m2 c2)).three
      refine bodyPost_ret (v := .agg #[.bool neg, .slice a1 m1 c1, .slice a2 m2 c2]) (by simp [results, Try.results54, go_sem, y0, y1, y2]) rfl ⟨_, rfl, ?_, below_set3 H3.out.2.2.2.1 (Nat.le_refl _) _ _ _⟩
      refine RatC.other (w := w3) ?_ H3.out.2.2.2.2.1 noLimb_nil3 (grown_set3 _ _ _ _ _)
      refine ratC_mk hN0 hD0 ?_ ?_
      · rw [H3.out.2.2.2.2.2, HG1.out, Nat.div_one]; exact H3.out.1
      · rw [H3.out.2.2.2.2.2, HG1.out, Nat.div_one]; exact H3.out.2.1
    · rcases hcase with hm3 | ⟨rfl, b, o, x, rfl, hc, hx⟩
      rotate_left 1
      have hxb : ((x : Int) != 1) = true := by simp; omega
      rotate_left 1
      have hxb : ((m3 : Int) != 1) = true := by simp; omega
      all_goals
        go_wp2_with fail
        refine (natDiv_any H3.out.1 H3.out.2.2.1 HG0.out HA.out.2.2.1 HK.out).mono ?_
        rintro e w4 ⟨q1, r1, rfl, hq1, hr1, hb4⟩
        obtain ⟨qa1, qn1, qc1, rfl⟩ := hq1.shape
        have H4 := Lib.hid (And.intro hq1 hb4)
        clear hq1 hr1 hb4 k0 k1 k2 f0 f1 f2
        go_wp2_with fail
        refine (natDiv_any (H3.out.2.1.below H4.out.2) (H3.out.2.2.1.below H4.out.2) HG0.out HA.out.2.2.2 HK.out).mono ?_
        rintro e w5 ⟨q2, r2, rfl, hq2, hr2, hb5⟩
        obtain ⟨qa2, qn2, qc2, rfl⟩ := hq2.shape
        have hb6 := below_next H4.out.2 hb5
        have hbx6 := H3.out.2.2.2.2.1.below hb6
        obtain ⟨⟨k0, k1, k2⟩, f0, f1, f2⟩ := hbx6.three
        have H5 := Lib.hid (And.intro (H4.out.1.below hb5) (And.intro hq2 (And.intro (below_next' H3.out.2.2.2.1 hb6) hbx6)))
        clear hq2 hr2 hb5 hb6 hbx6
        go_wp2
        obtain ⟨⟨y0, y1, y2⟩, _⟩ := (H5.out.2.2.2.store3 (.bool neg) (.slice qa1 qn1 qc1) (.slice qa2 qn2 qc2)).three
        refine bodyPost_ret (v := .agg #[.bool neg, .slice qa1 qn1 qc1, .slice qa2 qn2 qc2]) (by simp [results, Try.results54, go_sem, y0, y1, y2]) rfl ⟨_, rfl, ?_, below_set3 H5.out.2.2.1 (Nat.le_refl _) _ _ _⟩
        refine RatC.other (w := w5) ?_ H5.out.2.2.2 noLimb_nil3 (grown_set3 _ _ _ _ _)
        exact ratC_mk hN0 hD0 (by rw [H3.out.2.2.2.2.2]; exact H5.out.1) (by rw [H3.out.2.2.2.2.2]; exact H5.out.2.1)

end Go.Proofs.Ytdpiclmjdcjajaa

/-
  The reference's walks of Canonical, Neg, Abs, FromInt, Sign and Integral.
-/
namespace Go.Proofs.Ytdpiclmjdcjajaa
open Go.RowKit Num

theorem RatV.build {w : World} {neg s : Bool} {an ad : Option Addr} {n cn m cd k : Nat} {q p : Rat} (h : RatV w neg an n cn ad m cd k q) (hk : k ≤ 80000) (hp : ∀ a b, rat neg a b = q → rat s a b = p) :
    Calls Try.prog 54 #[.bool s, .slice an n cn, .slice ad m cd] w (RatP p w) := by
  obtain ⟨l1, l2, rfl, rfl, h1, h2, k1, k2, hq⟩ := h
  rw [← hp _ _ hq.symm]
  exact build_any s _ _ l1 l2 w h1 h2 (by omega) (by omega)

/-- The end of a walk that stores a number into its result. -/
theorem ratC_end {w w3 : World} {g : Nat} {q : Rat} {yn ad : Option Addr} {yl yc dl dc : Nat} (hbw : Below w.heap.size w w3) (hB : BoxV w3 w.heap.size g 24 [.bool false, .slice none 0 0, .slice none 0 0]) (h : RatC w3 (.agg #[.bool (decide (q.num < 0)), .slice yn yl yc, .slice ad dl dc]) q) :
    RatC (((w3.setCell ⟨g, 0, none⟩ (.bool (decide (q.num < 0)))).setCell ⟨g, 1, none⟩ (.slice yn yl yc)).setCell ⟨g, 2, none⟩ (.slice ad dl dc)) (.agg #[.bool (decide (q.num < 0)), .slice yn yl yc, .slice ad dl dc]) q ∧
      Below w.heap.size w (((w3.setCell ⟨g, 0, none⟩ (.bool (decide (q.num < 0)))).setCell ⟨g, 1, none⟩ (.slice yn yl yc)).setCell ⟨g, 2, none⟩ (.slice ad dl dc)) :=
  ⟨h.other hB noLimb_nil3 (grown_set3 _ _ _ _ _), below_set3 hbw hB.block.1 _ _ _⟩

set_option maxHeartbeats 2000000 in
theorem refCanonical_any (na : Bool) (an ad : Option Addr) (n1 c1 n2 c2 k : Nat) (p : Rat) (w : World) (hp : RatV w na an n1 c1 ad n2 c2 k p) (hk : k ≤ 80000) :
    Calls Try.prog 47 #[.agg #[.bool na, .slice an n1 c1, .slice ad n2 c2]] w (RatP (p) w) := by
  have hbw := below_alloc2 w (.cells #[.bool na, .slice an n1 c1, .slice ad n2 c2] 24) (.cells #[.bool false, .slice none 0 0, .slice none 0 0] 24)
  have hb1 := (alloc2_box w [.bool na, .slice an n1 c1, .slice ad n2 c2] [.bool false, .slice none 0 0, .slice none 0 0] 24).2
  have hc := (hp.below hbw).build (s := na) (p := p) hk (fun a b h => h)
  obtain ⟨q, hq⟩ : ∃ q, p = q := ⟨_, rfl⟩
  rw [hq] at hc ⊢
  have HA := Lib.hid (And.intro hc (And.intro hbw hb1))
  clear hq
  clear hp hc hbw hb1
  go_enter Try.func47, Try.ntmps47
  go_wp2_with fail
  refine HA.out.1.mono ?_
  rintro e w3 ⟨v, rfl, hv, hb3⟩
  have hB5 := HA.out.2.2.below hb3
  have hbb := below_next' HA.out.2.1 hb3
  have HV := Lib.hid hv
  obtain ⟨yn, yl, yc, dn, dl, dc, rfl, _⟩ := hv
  obtain ⟨⟨y0, y1, y2⟩, i0, i1, i2⟩ := hB5.three
  have HF := Lib.hid (And.intro hbb hB5)
  clear hB5 hbb hb3
  go_wp2
  obtain ⟨e1, e2⟩ := ratC_end HF.out.1 HF.out.2 HV.out
  exact bodyPost_ret (v := .agg #[.bool (decide (q.num < 0)), .slice yn yl yc, .slice dn dl dc]) (by simp [results, Try.results47, go_sem, y0, y1, y2]) rfl ⟨_, rfl, e1, e2⟩

set_option maxHeartbeats 2000000 in
theorem refNeg_any (na : Bool) (an ad : Option Addr) (n1 c1 n2 c2 k : Nat) (p : Rat) (w : World) (hp : RatV w na an n1 c1 ad n2 c2 k p) (hk : k ≤ 80000) :
    Calls Try.prog 117 #[.agg #[.bool na, .slice an n1 c1, .slice ad n2 c2]] w (RatP (-p) w) := by
  have hbw := below_alloc2 w (.cells #[.bool na, .slice an n1 c1, .slice ad n2 c2] 24) (.cells #[.bool false, .slice none 0 0, .slice none 0 0] 24)
  have hb1 := (alloc2_box w [.bool na, .slice an n1 c1, .slice ad n2 c2] [.bool false, .slice none 0 0, .slice none 0 0] 24).2
  have hc := (hp.below hbw).build (s := !na) (p := -p) hk (fun a b h => by rw [rat_not, h])
  obtain ⟨q, hq⟩ : ∃ q, -p = q := ⟨_, rfl⟩
  rw [hq] at hc ⊢
  have HA := Lib.hid (And.intro hc (And.intro hbw hb1))
  clear hq
  clear hp hc hbw hb1
  go_enter Try.func117, Try.ntmps117
  go_wp2_with fail
  refine HA.out.1.mono ?_
  rintro e w3 ⟨v, rfl, hv, hb3⟩
  have hB5 := HA.out.2.2.below hb3
  have hbb := below_next' HA.out.2.1 hb3
  have HV := Lib.hid hv
  obtain ⟨yn, yl, yc, dn, dl, dc, rfl, _⟩ := hv
  obtain ⟨⟨y0, y1, y2⟩, i0, i1, i2⟩ := hB5.three
  have HF := Lib.hid (And.intro hbb hB5)
  clear hB5 hbb hb3
  go_wp2
  obtain ⟨e1, e2⟩ := ratC_end HF.out.1 HF.out.2 HV.out
  exact bodyPost_ret (v := .agg #[.bool (decide (q.num < 0)), .slice yn yl yc, .slice dn dl dc]) (by simp [results, Try.results117, go_sem, y0, y1, y2]) rfl ⟨_, rfl, e1, e2⟩

theorem refCanonical_a {w : World} {x : Value} {k : Nat} {p : Rat} (hx : RatA w x k p) (hk : k ≤ 80000) : Calls Try.prog 47 #[x] w (RatP p w) := by
  obtain ⟨_, _, _, _, _, _, _, rfl, h1⟩ := hx.v
  exact refCanonical_any _ _ _ _ _ _ _ k p w h1 hk
theorem refNeg_a {w : World} {x : Value} {k : Nat} {p : Rat} (hx : RatA w x k p) (hk : k ≤ 80000) : Calls Try.prog 117 #[x] w (RatP (-p) w) := by
  obtain ⟨_, _, _, _, _, _, _, rfl, h1⟩ := hx.v
  exact refNeg_any _ _ _ _ _ _ _ k p w h1 hk
/-- A canonical number's sign. -/
theorem num_len {w : World} {a : Option Addr} {n c : Nat} {q : Rat} (h : Nt w (.slice a n c) q.num.natAbs) : n = 0 ↔ q.num = 0 := by
  rw [nt_len h]; omega

set_option maxHeartbeats 2000000 in
theorem refSign_any (na : Bool) (an ad : Option Addr) (n1 c1 n2 c2 k : Nat) (p : Rat) (w : World) (hp : RatV w na an n1 c1 ad n2 c2 k p) (hk : k ≤ 80000) :
    Calls Try.prog 65 #[.agg #[.bool na, .slice an n1 c1, .slice ad n2 c2]] w (SignP p w) := by
  have hbw := below_alloc1 w (.cells #[.bool na, .slice an n1 c1, .slice ad n2 c2] 24)
  have hb1 := BoxV.new w w.heap.size 24 (Nat.le_refl _) [.bool na, .slice an n1 c1, .slice ad n2 c2]
  have hc := refCanonical_a (hp.below hbw).a hk
  have HA := Lib.hid (And.intro hc (And.intro hbw hb1))
  clear hp hc hbw hb1
  go_enter Try.func65, Try.ntmps65
  go_wp2_with fail
  refine HA.out.1.mono ?_
  rintro e w3 ⟨v, rfl, hv, hb3⟩
  have hB5 := HA.out.2.2.below hb3
  have hbb := below_next' HA.out.2.1 hb3
  obtain ⟨yn, yl, yc, dn, dl, dc, rfl, hn, _⟩ := hv
  have hl := num_len hn
  obtain ⟨⟨y0, y1, y2⟩, i0, i1, i2⟩ := hB5.three
  have HF := Lib.hid (below_set3 hbb hB5.block.1 (.bool (decide (p.num < 0))) (.slice yn yl yc) (.slice dn dl dc))
  clear hB5 hbb hb3 hn
  obtain ⟨s, hs⟩ : ∃ s, decide (p.num < 0) = s := ⟨_, rfl⟩
  rw [hs] at HF ⊢
  by_cases h0 : yl = 0
  · have hb : ((yl : Int) == 0) = true := by simp [h0]
    have HS : Hid ((0 : Int) = sgn p) := by
      show (0 : Int) = _
      unfold sgn; rw [if_pos (hl.1 h0)]
    clear hl h0 hs
    go_wp2
    go_ret
    exact ⟨ret_int HS.out, HF.out⟩
  · have hb : ((yl : Int) == 0) = false := by rw [beq_eq_false_iff_ne]; omega
    have hne : ¬ p.num = 0 := fun e => h0 (hl.2 e)
    cases s
    · have HS : Hid ((1 : Int) = sgn p) := by
        show (1 : Int) = _
        unfold sgn; rw [if_neg hne, if_neg (by simpa using hs)]
      clear hl h0 hs hne
      go_wp2
      go_ret
      exact ⟨ret_int HS.out, HF.out⟩
    · have HS : Hid ((-1 : Int) = sgn p) := by
        show (-1 : Int) = _
        unfold sgn; rw [if_neg hne, if_pos (by simpa using hs)]
      clear hl h0 hs hne
      go_wp2
      go_ret
      exact ⟨ret_int HS.out, HF.out⟩

end Go.Proofs.Ytdpiclmjdcjajaa

/-
  The reference's walks of Floor and Ceil.
-/
namespace Go.Proofs.Ytdpiclmjdcjajaa
open Go.RowKit Num

/-- A canonical natural number as a list of limbs. -/
theorem Nt.list {w : World} {v : Value} {x k : Nat} (h : Nt w v x) (hx : x < pw k) : ∃ L, Lim w v L ∧ val L = x ∧ L.length ≤ k := by
  obtain ⟨l, h1, c, e⟩ := h
  exact ⟨l, h1, e, cano_len c (by rw [e]; exact hx)⟩

/-- The last part of the reference's Floor: build of a whole number. -/
theorem ref_whole {w : World} {neg : Bool} {v : Value} {L : List Nat} {m g : Nat} (h : Lim w v L) (hm : val L = m) (h1 : w.cell? ⟨g, 0, none⟩ = some (.int .u32 1)) (hL : L.length ≤ 80000) :
    Calls Try.prog 54 #[.bool neg, v, .slice (some ⟨g, 0, none⟩) 1 1] w (RatP (rat neg m 1) w) := by
  obtain ⟨l1, hl1, c1, e1⟩ := lim_one h1
  have := one_list c1 e1
  subst this
  have h2 := build_any neg v _ L [1] w h hl1 hL (by simp)
  rw [hm, e1] at h2
  exact h2

theorem c1_24 (a : Act) (d : Option Tmp) (ty : TypeId) (pos : String) (es : Array Edge) (g : Option (Nat × Bool)) (t : Tmp) (w : World) :
    Sem.run Try.prog (execOp a.eval ⟨d, .call ⟨.value (.func 47), #[.tmp t], #[24]⟩, ty, pos, es, g⟩) w = .ok (.enter 47 #[a.tmps.getD t undef]) w := by go_simp
theorem c1_28 (a : Act) (d : Option Tmp) (ty : TypeId) (pos : String) (es : Array Edge) (g : Option (Nat × Bool)) (t : Tmp) (w : World) :
    Sem.run Try.prog (execOp a.eval ⟨d, .call ⟨.value (.func 65), #[.tmp t], #[24]⟩, ty, pos, es, g⟩) w = .ok (.enter 65 #[a.tmps.getD t undef]) w := by go_simp
theorem c1_32 (a : Act) (d : Option Tmp) (ty : TypeId) (pos : String) (es : Array Edge) (g : Option (Nat × Bool)) (t : Tmp) (w : World) :
    Sem.run Try.prog (execOp a.eval ⟨d, .call ⟨.value (.func 117), #[.tmp t], #[24]⟩, ty, pos, es, g⟩) w = .ok (.enter 117 #[a.tmps.getD t undef]) w := by go_simp
theorem c2_36 (a : Act) (d : Option Tmp) (ty : TypeId) (pos : String) (es : Array Edge) (g : Option (Nat × Bool)) (t u : Tmp) (w : World) :
    Sem.run Try.prog (execOp a.eval ⟨d, .call ⟨.value (.func 44), #[.tmp t, .tmp u], #[24, 24]⟩, ty, pos, es, g⟩) w = .ok (.enter 44 #[a.tmps.getD t undef, a.tmps.getD u undef]) w := by go_simp
theorem c2_38 (a : Act) (d : Option Tmp) (ty : TypeId) (pos : String) (es : Array Edge) (g : Option (Nat × Bool)) (t u : Tmp) (w : World) :
    Sem.run Try.prog (execOp a.eval ⟨d, .call ⟨.value (.func 81), #[.tmp t, .tmp u], #[24, 24]⟩, ty, pos, es, g⟩) w = .ok (.enter 81 #[a.tmps.getD t undef, a.tmps.getD u undef]) w := by go_simp
theorem c2_40 (a : Act) (d : Option Tmp) (ty : TypeId) (pos : String) (es : Array Edge) (g : Option (Nat × Bool)) (t u : Tmp) (w : World) :
    Sem.run Try.prog (execOp a.eval ⟨d, .call ⟨.value (.func 68), #[.tmp t, .tmp u], #[24, 24]⟩, ty, pos, es, g⟩) w = .ok (.enter 68 #[a.tmps.getD t undef, a.tmps.getD u undef]) w := by go_simp
theorem c2_42 (a : Act) (d : Option Tmp) (ty : TypeId) (pos : String) (es : Array Edge) (g : Option (Nat × Bool)) (t u : Tmp) (w : World) :
    Sem.run Try.prog (execOp a.eval ⟨d, .call ⟨.value (.func 45), #[.tmp t, .tmp u], #[24, 24]⟩, ty, pos, es, g⟩) w = .ok (.enter 45 #[a.tmps.getD t undef, a.tmps.getD u undef]) w := by go_simp

section
variable {κ : Tmp → Kd} {G : Nat → Option Tmp} {d t u c : Tmp} {ty : TypeId} {pos : String} {es : Array Edge} {g : Option (Nat × Bool)} {k1 k2 : Nat} {p q : Rat}
end

end Go.Proofs.Ytdpiclmjdcjajaa

/-
  What the slots hold in the reference's walks, and the steps of their regions.
-/
namespace Go.Proofs.Ytdpiclmjdcjajaa
open Go.RowKit Num

/-- What a slot holds. -/
structure Ke where
  holds : World → Value → Prop
  below : ∀ {w w' : World} {v : Value}, Below w.heap.size w w' → holds w v → holds w' v

def Fe (κ : Tmp → Ke) : Tmp → World → Value → Prop := fun t => (κ t).holds
theorem Fe.mono (κ : Tmp → Ke) : ∀ t w w' v, Below w.heap.size w w' → Fe κ t w v → Fe κ t w' v := fun t _ _ _ hb h => (κ t).below hb h
theorem Fe.draw (κ : Tmp → Ke) {W : World} : ∀ t v, Fe κ t W v → Fe κ t { W with drawn := W.drawn + 1 } v := fun t _ h => (κ t).below (Below.refl _ _).drew h

def Ke.any : Ke := ⟨fun _ _ => True, fun _ h => h⟩
def Ke.con (u : Value) : Ke := ⟨fun _ v => v = u, fun _ h => h⟩
def Ke.box (k : Nat) (q : Rat) : Ke := ⟨(Kd.boxC k q).holds, fun hb h => Kd.below hb h⟩
def Ke.adB (s : Bool) : Ke := ⟨fun w v => ∃ g j, v = .pointer (some ⟨g, j, none⟩) ∧ w.cell? ⟨g, j, none⟩ = some (.bool s), fun hb ⟨g, j, e, h⟩ => ⟨g, j, e, cell_below hb h⟩⟩
def Ke.adN (k x : Nat) : Ke := ⟨fun w v => ∃ g j u, v = .pointer (some ⟨g, j, none⟩) ∧ w.cell? ⟨g, j, none⟩ = some u ∧ Nt w u x ∧ x < pw k, fun hb ⟨g, j, u, e, h, hn, hx⟩ => ⟨g, j, u, e, cell_below hb h, hn.below hb, hx⟩⟩
def Ke.nt (k x : Nat) : Ke := ⟨fun w v => Nt w v x ∧ x < pw k, fun hb h => ⟨h.1.below hb, h.2⟩⟩
def Ke.list (n x : Nat) : Ke := ⟨fun w v => ∃ L, Lim w v L ∧ val L = x ∧ L.length ≤ n, fun hb ⟨L, h, e, n⟩ => ⟨L, h.below hb, e, n⟩⟩
def Ke.ratC (q : Rat) : Ke := ⟨fun w v => RatC w v q, fun hb h => h.below hb⟩

/-- A number, as a list of limbs. -/
def Ke.isList (κ : Ke) (n x : Nat) : Prop := κ = .nt n x ∨ κ = .list n x
theorem Ke.isList.list {κ : Ke} {n x : Nat} (h : κ.isList n x) {w : World} {v : Value} (hv : κ.holds w v) : ∃ L, Lim w v L ∧ val L = x ∧ L.length ≤ n := by
  rcases h with rfl | rfl
  · exact hv.1.list hv.2
  · exact hv

theorem run_field (a : Act) (d : Option Tmp) (ty : TypeId) (pos : String) (es : Array Edge) (gd : Option (Nat × Bool)) (w : World) (t : Tmp) (g : Nat)
    (ht : a.tmps.getD t undef = .pointer (some ⟨g, 0, none⟩)) :
    Sem.run Try.prog (execOp a.eval ⟨d, .fieldAddr 24 (.tmp t) 0, ty, pos, es, gd⟩) w = .ok (.value (.pointer (some ⟨g, 0, none⟩))) w ∧
    Sem.run Try.prog (execOp a.eval ⟨d, .fieldAddr 24 (.tmp t) 1, ty, pos, es, gd⟩) w = .ok (.value (.pointer (some ⟨g, 1, none⟩))) w ∧
    Sem.run Try.prog (execOp a.eval ⟨d, .fieldAddr 24 (.tmp t) 2, ty, pos, es, gd⟩) w = .ok (.value (.pointer (some ⟨g, 2, none⟩))) w := by
  refine ⟨?_, ?_, ?_⟩ <;> go_simp

theorem run_load4 (a : Act) (d : Option Tmp) (ty : TypeId) (pos : String) (es : Array Edge) (gd : Option (Nat × Bool)) (w : World) (t : Tmp) (g j : Nat) (s : Bool)
    (ht : a.tmps.getD t undef = .pointer (some ⟨g, j, none⟩)) (h0 : w.cell? ⟨g, j, none⟩ = some (.bool s)) :
    Sem.run Try.prog (execOp a.eval ⟨d, .load 4 (.tmp t), ty, pos, es, gd⟩) w = .ok (.value (.bool s)) w := by
  go_simp
theorem run_load22 (a : Act) (d : Option Tmp) (ty : TypeId) (pos : String) (es : Array Edge) (gd : Option (Nat × Bool)) (w : World) (t : Tmp) (g j : Nat) (b : Option Addr) (n c : Nat)
    (ht : a.tmps.getD t undef = .pointer (some ⟨g, j, none⟩)) (h0 : w.cell? ⟨g, j, none⟩ = some (.slice b n c)) :
    Sem.run Try.prog (execOp a.eval ⟨d, .load 22 (.tmp t), ty, pos, es, gd⟩) w = .ok (.value (.slice b n c)) w := by
  go_simp

theorem c3_58 (a : Act) (d : Option Tmp) (ty : TypeId) (pos : String) (es : Array Edge) (g : Option (Nat × Bool)) (s t u : Tmp) (w : World) :
    Sem.run Try.prog (execOp a.eval ⟨d, .call ⟨.value (.func 54), #[.tmp s, .tmp t, .tmp u], #[4, 22, 22]⟩, ty, pos, es, g⟩) w = .ok (.enter 54 #[a.tmps.getD s undef, a.tmps.getD t undef, a.tmps.getD u undef]) w := by go_simp
theorem c2_74 (a : Act) (d : Option Tmp) (ty : TypeId) (pos : String) (es : Array Edge) (g : Option (Nat × Bool)) (t u : Tmp) (w : World) :
    Sem.run Try.prog (execOp a.eval ⟨d, .call ⟨.value (.func 86), #[.tmp t, .tmp u], #[22, 22]⟩, ty, pos, es, g⟩) w = .ok (.enter 86 #[a.tmps.getD t undef, a.tmps.getD u undef]) w := by go_simp
theorem c2_75 (a : Act) (d : Option Tmp) (ty : TypeId) (pos : String) (es : Array Edge) (g : Option (Nat × Bool)) (t u : Tmp) (w : World) :
    Sem.run Try.prog (execOp a.eval ⟨d, .call ⟨.value (.func 87), #[.tmp t, .tmp u], #[22, 22]⟩, ty, pos, es, g⟩) w = .ok (.enter 87 #[a.tmps.getD t undef, a.tmps.getD u undef]) w := by go_simp
theorem c2_76 (a : Act) (d : Option Tmp) (ty : TypeId) (pos : String) (es : Array Edge) (g : Option (Nat × Bool)) (t u : Tmp) (w : World) :
    Sem.run Try.prog (execOp a.eval ⟨d, .call ⟨.value (.func 89), #[.tmp t, .tmp u], #[22, 22]⟩, ty, pos, es, g⟩) w = .ok (.enter 89 #[a.tmps.getD t undef, a.tmps.getD u undef]) w := by go_simp
theorem c2_55 (a : Act) (d : Option Tmp) (ty : TypeId) (pos : String) (es : Array Edge) (g : Option (Nat × Bool)) (t u : Tmp) (w : World) :
    Sem.run Try.prog (execOp a.eval ⟨d, .call ⟨.value (.func 88), #[.tmp t, .tmp u], #[22, 22]⟩, ty, pos, es, g⟩) w = .ok (.enter 88 #[a.tmps.getD t undef, a.tmps.getD u undef]) w := by go_simp

section
variable {κ : Tmp → Ke} {G : Nat → Option Tmp} {d s t u c : Tmp} {ty : TypeId} {pos : String} {es : Array Edge} {k k1 k2 x y : Nat} {p q : Rat}

/-- A step without a guard. -/
theorem e_step {o : Oper} (hg : o.guard = none)
    (h : ∀ (a : Act) (w : World) (Q : Exit → Act → World → Prop), (∀ t, .tmp t ∈ o.op.operands.toList → (κ t).holds w (a.tmps.getD t undef)) → o.wp Try.prog a w (fun a' w' => ∃ v, a' = a.put o.dst v ∧ Below w.heap.size w w' ∧ ∀ d, o.dst = some d → (κ d).holds w' v) Q) :
    FlowStep Try.prog (Fe κ) G o := step_yes (F := Fe κ) (G := G) (by rw [hg]; trivial) h

set_option maxRecDepth 100000 in
theorem e_field (ht : κ t = .box k q) :
    ((κ d = .adB (decide (q.num < 0))) → FlowStep Try.prog (Fe κ) G ⟨some d, .fieldAddr 24 (.tmp t) 0, ty, pos, es, none⟩) ∧
    ((κ d = .adN k q.num.natAbs) → FlowStep Try.prog (Fe κ) G ⟨some d, .fieldAddr 24 (.tmp t) 1, ty, pos, es, none⟩) ∧
    ((κ d = .adN k q.den) → FlowStep Try.prog (Fe κ) G ⟨some d, .fieldAddr 24 (.tmp t) 2, ty, pos, es, none⟩) := by
  refine ⟨fun hd => ?_, fun hd => ?_, fun hd => ?_⟩
  all_goals
    refine e_step rfl fun a w Q hf => ?_
    have h := hf t (by simp [Op.operands])
    rw [ht] at h
    obtain ⟨b, x0, x1, x2, e, c0, c1, c2, ⟨an, ln, cn, ad, ld, cd, hv, hn, hdn⟩, hs⟩ := h
    have hv' := hv
    simp only [Value.agg.injEq, Array.mk.injEq, List.cons.injEq, and_true] at hv'
    obtain ⟨rfl, rfl, rfl⟩ := hv'
    unfold Oper.wp
  · rw [(run_field _ _ _ _ _ _ _ _ b e).1, Oper.upon_value]
    exact ⟨_, rfl, Below.refl _ _, fun d' hd' => by cases hd'; rw [hd]; exact ⟨_, _, rfl, c0⟩⟩
  · rw [(run_field _ _ _ _ _ _ _ _ b e).2.1, Oper.upon_value]
    exact ⟨_, rfl, Below.refl _ _, fun d' hd' => by cases hd'; rw [hd]; exact ⟨_, _, _, rfl, c1, hn, hs.1⟩⟩
  · rw [(run_field _ _ _ _ _ _ _ _ b e).2.2, Oper.upon_value]
    exact ⟨_, rfl, Below.refl _ _, fun d' hd' => by cases hd'; rw [hd]; exact ⟨_, _, _, rfl, c2, hdn, hs.2⟩⟩

theorem e_loadB {b : Bool} (ht : κ t = .adB b) (hd : κ d = .con (.bool b)) : FlowStep Try.prog (Fe κ) G ⟨some d, .load 4 (.tmp t), ty, pos, es, none⟩ := by
  refine e_step rfl fun a w Q hf => ?_
  have h := hf t (by simp [Op.operands])
  rw [ht] at h
  obtain ⟨g, j, e, hc⟩ := h
  unfold Oper.wp
  rw [run_load4 _ _ _ _ _ _ _ _ g j b e hc, Oper.upon_value]
  exact ⟨_, rfl, Below.refl _ _, fun d' hd' => by cases hd'; rw [hd]; rfl⟩
theorem e_loadN (ht : κ t = .adN k x) (hd : κ d = .nt k x) : FlowStep Try.prog (Fe κ) G ⟨some d, .load 22 (.tmp t), ty, pos, es, none⟩ := by
  refine e_step rfl fun a w Q hf => ?_
  have h := hf t (by simp [Op.operands])
  rw [ht] at h
  obtain ⟨g, j, u, e, hc, hn, hx⟩ := h
  obtain ⟨ua, un, uc, rfl⟩ := hn.shape
  unfold Oper.wp
  rw [run_load22 _ _ _ _ _ _ _ _ g j ua un uc e hc, Oper.upon_value]
  exact ⟨_, rfl, Below.refl _ _, fun d' hd' => by cases hd'; rw [hd]; exact ⟨hn, hx⟩⟩
theorem e_move (hd : κ d = κ t) : FlowStep Try.prog (Fe κ) G ⟨some d, .move (.tmp t), ty, pos, es, none⟩ := by
  refine e_step rfl fun a w Q hf => ?_
  have h := hf t (by simp [Op.operands])
  unfold Oper.wp
  have hr : Sem.run Try.prog (execOp a.eval ⟨some d, .move (.tmp t), ty, pos, es, none⟩) w = .ok (.value (a.tmps.getD t undef)) w := by go_simp
  rw [hr, Oper.upon_value]
  exact ⟨_, rfl, Below.refl _ _, fun d' hd' => by cases hd'; rw [hd]; exact h⟩
theorem e_assign (hd : κ d = κ t) : FlowStep Try.prog (Fe κ) G ⟨some d, .assign (.tmp t), ty, pos, es, none⟩ := by
  refine e_step rfl fun a w Q hf => ?_
  have h := hf t (by simp [Op.operands])
  unfold Oper.wp
  have hr : Sem.run Try.prog (execOp a.eval ⟨some d, .assign (.tmp t), ty, pos, es, none⟩) w = .ok (.value (a.tmps.getD t undef)) w := by go_simp
  rw [hr, Oper.upon_value]
  exact ⟨_, rfl, Below.refl _ _, fun d' hd' => by cases hd'; rw [hd]; exact h⟩

/-- An operation that only reckons with two slots. -/
theorem e_bi {op : Op} {v v' r : Value} (hm : .tmp t ∈ op.operands.toList) (hm' : .tmp u ∈ op.operands.toList) (ht : κ t = .con v) (hu : κ u = .con v') (hd : κ d = .con r)
    (hrun : ∀ (a : Act) (w : World), a.tmps.getD t undef = v → a.tmps.getD u undef = v' → Sem.run Try.prog (execOp a.eval ⟨some d, op, ty, pos, es, none⟩) w = .ok (.value r) w) : FlowStep Try.prog (Fe κ) G ⟨some d, op, ty, pos, es, none⟩ := by
  refine e_step rfl fun a w Q hf => ?_
  have h := hf t hm
  have h' := hf u hm'
  rw [ht] at h
  rw [hu] at h'
  unfold Oper.wp
  rw [hrun a w h h', Oper.upon_value]
  exact ⟨_, rfl, Below.refl _ _, fun d' hd' => by cases hd'; rw [hd]; rfl⟩
theorem e_bneq {b b' : Bool} (ht : κ t = .con (.bool b)) (hu : κ u = .con (.bool b')) (hd : κ d = .con (.bool (b != b'))) : FlowStep Try.prog (Fe κ) G ⟨some d, .binOp .neq 4 (.tmp t) (.tmp u) 4, ty, pos, es, none⟩ :=
  e_bi (by simp [Op.operands]) (by simp [Op.operands]) ht hu hd fun a w h h' => by cases b <;> cases b' <;> go_simp
theorem e_beql {b b' : Bool} (ht : κ t = .con (.bool b)) (hu : κ u = .con (.bool b')) (hd : κ d = .con (.bool (b == b'))) : FlowStep Try.prog (Fe κ) G ⟨some d, .binOp .eql 4 (.tmp t) (.tmp u) 4, ty, pos, es, none⟩ :=
  e_bi (by simp [Op.operands]) (by simp [Op.operands]) ht hu hd fun a w h h' => by cases b <;> cases b' <;> go_simp

theorem e_call2 {f : FuncId} (hrun : ∀ (a : Act) (w : World), Sem.run Try.prog (execOp a.eval ⟨some d, .call ⟨.value (.func f), #[.tmp t, .tmp u], #[22, 22]⟩, ty, pos, es, none⟩) w = .ok (.enter f #[a.tmps.getD t undef, a.tmps.getD u undef]) w)
    (hc : ∀ w x y, (κ t).holds w x → (κ u).holds w y → Calls Try.prog f #[x, y] w (fun e w' => ∃ r, e = .returned r ∧ (κ d).holds w' r ∧ Below w.heap.size w w')) :
    FlowStep Try.prog (Fe κ) G ⟨some d, .call ⟨.value (.func f), #[.tmp t, .tmp u], #[22, 22]⟩, ty, pos, es, none⟩ := by
  refine e_step rfl fun a w Q hf => ?_
  unfold Oper.wp
  rw [hrun, Oper.upon_enter]
  refine (hc w _ _ (hf t (by simp [Op.operands, Call.operands])) (hf u (by simp [Op.operands, Call.operands]))).mono ?_
  rintro e w' ⟨r, rfl, hr, hb⟩
  exact ⟨r, rfl, hb, fun d' hd' => by cases hd'; exact hr⟩

theorem e_mul (ht : κ t = .nt k x) (hu : κ u = .nt k y) (hd : κ d = .nt (k + k) (x * y)) (hk : k ≤ 100000) : FlowStep Try.prog (Fe κ) G ⟨some d, .call ⟨.value (.func 86), #[.tmp t, .tmp u], #[22, 22]⟩, ty, pos, es, none⟩ :=
  e_call2 (fun a w => c2_74 a _ _ _ _ _ _ _ w) fun w v1 v2 h1 h2 => by
    rw [ht] at h1
    rw [hu] at h2
    refine (natMul_any h1.1 h2.1 h1.2 h2.2 hk).mono fun e w' ⟨v, he, hv, hb⟩ => ⟨v, he, ?_, hb⟩
    rw [hd]
    exact ⟨hv, by rw [pw_add]; exact Nat.mul_lt_mul_of_lt_of_lt h1.2 h2.2⟩
theorem e_add (ht : κ t = .nt k x) (hu : κ u = .nt k y) (hd : κ d = .list (k + k + 1) (x + y)) (hk : k ≤ 100000) : FlowStep Try.prog (Fe κ) G ⟨some d, .call ⟨.value (.func 87), #[.tmp t, .tmp u], #[22, 22]⟩, ty, pos, es, none⟩ :=
  e_call2 (fun a w => c2_75 a _ _ _ _ _ _ _ w) fun w v1 v2 h1 h2 => by
    rw [ht] at h1
    rw [hu] at h2
    obtain ⟨⟨l1, h1, c1, rfl⟩, b1⟩ := h1
    obtain ⟨⟨l2, h2, c2, rfl⟩, b2⟩ := h2
    have n1 := cano_len c1 b1
    have n2 := cano_len c2 b2
    refine (natAdd_lim _ _ l1 l2 w h1 h2 c1.1 c2.1 (by omega) (by omega)).mono fun e w' ⟨v, L, he, hv, hs, hn, hb⟩ => ⟨v, he, ?_, hb⟩
    rw [hd]
    exact ⟨L, hv, hs, by omega⟩
theorem e_sub (ht : κ t = .nt k x) (hu : κ u = .nt k y) (hd : κ d = .nt k (x - y)) (hle : y ≤ x) (hk : k ≤ 100000) : FlowStep Try.prog (Fe κ) G ⟨some d, .call ⟨.value (.func 89), #[.tmp t, .tmp u], #[22, 22]⟩, ty, pos, es, none⟩ :=
  e_call2 (fun a w => c2_76 a _ _ _ _ _ _ _ w) fun w v1 v2 h1 h2 => by
    rw [ht] at h1
    rw [hu] at h2
    refine (natSub_any h1.1 h2.1 h1.2 (by omega) hle).mono fun e w' ⟨v, he, hv, hb⟩ => ⟨v, he, ?_, hb⟩
    rw [hd]
    exact ⟨hv, Nat.lt_of_le_of_lt (Nat.sub_le _ _) h1.2⟩
theorem e_cmp (ht : κ t = .nt k x) (hu : κ u = .nt k y) (hd : κ d = .con (.int .i64 (cmpI x y))) : FlowStep Try.prog (Fe κ) G ⟨some d, .call ⟨.value (.func 88), #[.tmp t, .tmp u], #[22, 22]⟩, ty, pos, es, none⟩ :=
  e_call2 (fun a w => c2_55 a _ _ _ _ _ _ _ w) fun w v1 v2 h1 h2 => by
    rw [ht] at h1
    rw [hu] at h2
    refine (natCmp_nt h1.1 h2.1).mono fun e w' ⟨he, n, hb⟩ => ⟨_, he, ?_, by rw [hb]; exact below_drewN (Below.refl _ _) n⟩
    rw [hd]
    rfl

set_option maxRecDepth 100000 in
theorem e_build {b : Bool} {n m : Nat} (hs : κ s = .con (.bool b)) (ht : (κ t).isList n x) (hu : (κ u).isList m y) (hd : κ d = .ratC p) (hp : rat b x y = p) (hn : n ≤ 80000) (hm : m ≤ 80000) :
    FlowStep Try.prog (Fe κ) G ⟨some d, .call ⟨.value (.func 54), #[.tmp s, .tmp t, .tmp u], #[4, 22, 22]⟩, ty, pos, es, none⟩ := by
  refine e_step rfl fun a w Q hf => ?_
  have h0 := hf s (by simp [Op.operands, Call.operands])
  have h1 := ht.list (hf t (by simp [Op.operands, Call.operands]))
  have h2 := hu.list (hf u (by simp [Op.operands, Call.operands]))
  rw [hs] at h0
  obtain ⟨l1, hl1, e1, n1⟩ := h1
  obtain ⟨l2, hl2, e2, n2⟩ := h2
  unfold Oper.wp
  rw [c3_58, Oper.upon_enter]
  have h0' : a.tmps.getD s undef = .bool b := h0
  rw [h0']
  refine (build_any b _ _ l1 l2 w hl1 hl2 (by omega) (by omega)).mono ?_
  rintro e w' ⟨v, rfl, hv, hb⟩
  rw [e1, e2, hp] at hv
  exact ⟨v, rfl, hb, fun d' hd' => by cases hd'; rw [hd]; exact hv⟩
end

/-- A number is stored into a variable. -/
theorem e_store {ops : Array Oper} {Q : Exit → Act → World → Prop} {K : Act → World → Prop} {m t u B g : Nat} {q : Rat} {a : Act} {w : World} {ty : TypeId} {pos : String} {es : Array Edge} {x' y' z' : Value}
    (ho : ops[m]? = some ⟨none, .store 24 (.tmp t) (.tmp u), ty, pos, es, none⟩) (ht : a.tmps.getD t undef = .pointer (some ⟨g, 0, none⟩)) (hb : BoxV w B g 24 [x', y', z']) (hu : RatC w (a.tmps.getD u undef) q)
    (h : ∀ an ln cn ad ld cd, RatC w (.agg #[.bool (decide (q.num < 0)), .slice an ln cn, .slice ad ld cd]) q → K a (((w.setCell ⟨g, 0, none⟩ (.bool (decide (q.num < 0)))).setCell ⟨g, 1, none⟩ (.slice an ln cn)).setCell ⟨g, 2, none⟩ (.slice ad ld cd))) :
    wpOp Try.prog ops Q m K a w := by
  unfold wpOp
  rw [ho]
  simp only [Region.wanted, if_true]
  left
  obtain ⟨an, ln, cn, ad, ld, cd, hv, hn, hd⟩ := hu
  unfold Oper.wp
  rw [run_store24 a none ty pos es w t u B g _ an ad ln cn ld cd _ _ _ ht hv hb, Oper.upon_skip]
  exact h an ln cn ad ld cd ⟨_, _, _, _, _, _, rfl, hn, hd⟩

/-- Two numbers have been stored into their variables. -/
structure TwoC (B g0 g1 : Nat) (p q : Rat) (w W : World) : Prop where
  b0 : ∃ x y z, BoxV W B g0 24 [x, y, z] ∧ RatC W (.agg #[x, y, z]) p
  b1 : ∃ x y z, BoxV W B g1 24 [x, y, z] ∧ RatC W (.agg #[x, y, z]) q
  bel : ∀ W0, Below B W0 w → Below B W0 W
  kept : ∀ g' xs, BoxV w B g' 24 xs → g' ≠ g0 → g' ≠ g1 → BoxV W B g' 24 xs

theorem two_stores {ops : Array Oper} {Q : Exit → Act → World → Prop} {m t t' u u' B g0 g1 : Nat} {p q : Rat} {a : Act} {w : World} {ty ty' : TypeId} {pos pos' : String} {es es' : Array Edge} {x y z x' y' z' : Value}
    (ho : ops[m]? = some ⟨none, .store 24 (.tmp t) (.tmp u), ty, pos, es, none⟩) (ho' : ops[m + 1]? = some ⟨none, .store 24 (.tmp t') (.tmp u'), ty', pos', es', none⟩)
    (ht : a.tmps.getD t undef = .pointer (some ⟨g0, 0, none⟩)) (ht' : a.tmps.getD t' undef = .pointer (some ⟨g1, 0, none⟩))
    (hb0 : BoxV w B g0 24 [x, y, z]) (hb1 : BoxV w B g1 24 [x', y', z']) (hx0 : NoLimb [x, y, z]) (hx1 : NoLimb [x', y', z']) (hne : g0 ≠ g1)
    (hu : RatC w (a.tmps.getD u undef) p) (hu' : RatC w (a.tmps.getD u' undef) q) (h : ∀ W, TwoC B g0 g1 p q w W → Q .normal a W) :
    runFrom Try.prog ops Q 2 m a w := by
  simp only [runFrom]
  refine e_store ho ht hb0 hu fun an ln cn ad ld cd hp => ?_
  have g1' := grown_set3 w g0 (.bool (decide (p.num < 0))) (.slice an ln cn) (.slice ad ld cd)
  have k0 := hb0.store3 (.bool (decide (p.num < 0))) (.slice an ln cn) (.slice ad ld cd)
  have k1 := hb1.kept g1' (by simpa using fun e => hne e.symm)
  have hp' := hp.other hb0 hx0 g1'
  have hq' := hu'.other hb0 hx0 g1'
  have hbel : ∀ W0, Below B W0 w → Below B W0 (((w.setCell ⟨g0, 0, none⟩ (.bool (decide (p.num < 0)))).setCell ⟨g0, 1, none⟩ (.slice an ln cn)).setCell ⟨g0, 2, none⟩ (.slice ad ld cd)) := fun W0 hW => below_set3 hW hb0.block.1 _ _ _
  generalize ((w.setCell ⟨g0, 0, none⟩ (.bool (decide (p.num < 0)))).setCell ⟨g0, 1, none⟩ (.slice an ln cn)).setCell ⟨g0, 2, none⟩ (.slice ad ld cd) = w2 at *
  refine e_store ho' ht' k1 hq' fun an' ln' cn' ad' ld' cd' hq2 => ?_
  have g2' := grown_set3 w2 g1 (.bool (decide (q.num < 0))) (.slice an' ln' cn') (.slice ad' ld' cd')
  refine h _ ⟨⟨_, _, _, k0.kept g2' (by simpa using hne), hp'.other k1 hx1 g2'⟩, ⟨_, _, _, k1.store3 _ _ _, hq2.other k1 hx1 g2'⟩, fun W0 hW => below_set3 (hbel W0 hW) k1.block.1 _ _ _, fun g' xs hbx n0 n1 => ?_⟩
  exact (hbx.kept g1' (by simpa using n0)).kept g2' (by simpa using n1)

/-- A variable that holds a number. -/
theorem box_any {W : World} {B g t k : Nat} {neg : Bool} {an ad : Option Addr} {n cn m cd : Nat} {q : Rat} (hb : BoxV W B g t [.bool neg, .slice an n cn, .slice ad m cd]) (hv : RatV W neg an n cn ad m cd k q) : (Kd.box (k + 1) q).holds W (.pointer (some ⟨g, 0, none⟩)) := by
  obtain ⟨⟨c0, c1, c2⟩, _⟩ := hb.three
  exact ⟨g, _, _, _, rfl, c0, c1, c2, hv.a.le (by omega), hv.sz⟩

section
variable {κ : Tmp → Kd} {G : Nat → Option Tmp} {d t : Tmp} {ty : TypeId} {pos : String} {es : Array Edge} {g : Option (Nat × Bool)} {k1 : Nat} {p : Rat}
theorem fl_refCanon (hg : GuardYes (Fk κ) G g) (ht : (κ t).isRat k1 p) (hd : κ d = .ratC k1 p) (hk : k1 ≤ 80000) :
    FlowStep Try.prog (Fk κ) G ⟨some d, .call ⟨.value (.func 47), #[.tmp t], #[24]⟩, ty, pos, es, g⟩ :=
  fl_call1 (fun a w => c1_24 a _ _ _ _ _ _ w) hg fun w x hx => (refCanonical_a (ht.a hx (Nat.le_refl _)) hk).mono fun e w' ⟨v, he, hv, hb⟩ => ⟨v, he, by rw [hd]; exact ⟨hv, ht.sz hx⟩, hb⟩
theorem fl_refNeg (hg : GuardYes (Fk κ) G g) (ht : (κ t).isRat k1 p) (hd : κ d = .ratC k1 (-p)) (hk : k1 ≤ 80000) :
    FlowStep Try.prog (Fk κ) G ⟨some d, .call ⟨.value (.func 117), #[.tmp t], #[24]⟩, ty, pos, es, g⟩ :=
  fl_call1 (fun a w => c1_32 a _ _ _ _ _ _ w) hg fun w x hx => (refNeg_a (ht.a hx (Nat.le_refl _)) hk).mono fun e w' ⟨v, he, hv, hb⟩ => ⟨v, he, by rw [hd]; exact ⟨hv, sz_neg (ht.sz hx)⟩, hb⟩
end

end Go.Proofs.Ytdpiclmjdcjajaa
