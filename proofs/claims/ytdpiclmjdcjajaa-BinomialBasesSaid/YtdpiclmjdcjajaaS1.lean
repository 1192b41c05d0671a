/-
  The reference's walk of build: a number from its sign, numerator and denominator.
-/
import Derived.Test.YtdpiclmjdcjajaaQ4
import Derived.Test.YtdpiclmjdcjajaaC2
import Derived.Test.YtdpiclmjdcjajaaFlow6
import Derived.Test.YtdpiclmjdcjajaaFlow7
import Derived.Test.YtdpiclmjdcjajaaOpen
import Derived.Deep.Slices
import Derived.Deep.Fields
namespace Go.Proofs.Ytdpiclmjdcjajaa
open Go.RowKit Num

theorem one_list {l : List Nat} (hc : Cano l) (h : val l = 1) : l = [1] := by
  refine can_unique hc ⟨fun i => ?_, .inr (by simp [nth])⟩ (by rw [h]; rfl)
  rcases i with _ | i
  · rw [nth_cons_zero]; omega
  · rw [nth_cons_succ, nth_nil]; omega

set_option maxRecDepth 100000 in
set_option maxHeartbeats 4000000 in
theorem build_any (neg : Bool) (u v : Value) (l1 l2 : List Nat) (w : World) (h1 : Lim w u l1) (h2 : Lim w v l2) (n1 : l1.length ≤ 80000) (n2 : l2.length ≤ 80000) :
    Calls Try.prog 54 #[.bool neg, u, v] w (RatP (rat neg (val l1) (val l2)) w) := by
  have s1 : val l1 < pw 80001 := by obtain ⟨_, _, _, _, _, h3, _⟩ := h1; exact val_lt_succ h3 n1
  have s2 : val l2 < pw 80001 := by obtain ⟨_, _, _, _, _, h3, _⟩ := h2; exact val_lt_succ h3 n2
  obtain ⟨ua, un, uc, rfl⟩ : ∃ a n c, u = .slice a n c := by obtain ⟨a, c, e, _⟩ := h1; exact ⟨_, _, _, e⟩
  obtain ⟨va, vn, vc, rfl⟩ : ∃ a n c, v = .slice a n c := by obtain ⟨a, c, e, _⟩ := h2; exact ⟨_, _, _, e⟩
  obtain ⟨K, hK⟩ : ∃ K, K = 80001 := ⟨_, rfl⟩
  rw [← hK] at s1 s2
  have HK := Lib.hid (show K ≤ 90000 by omega)
  obtain ⟨N, hN⟩ : ∃ N, val l1 = N := ⟨_, rfl⟩
  obtain ⟨D, hD⟩ : ∃ D, val l2 = D := ⟨_, rfl⟩
  have hc1 := fun W (hW : Below w.heap.size w W) => nat_any _ l1 W (h1.below hW) (by omega)
  have hc2 := fun W (hW : Below w.heap.size w W) => nat_any _ l2 W (h2.below hW) (by omega)
  rw [hN] at s1 hc1 ⊢
  rw [hD] at s2 hc2 ⊢
  have HA := Lib.hid (And.intro hc1 (And.intro hc2 (And.intro s1 s2)))
  clear h1 h2 n1 n2 s1 s2 hc1 hc2 hN hD hK
  go_enter Try.func54, Try.ntmps54
  go_wp2_with fail
  have hbx := BoxV.new w w.heap.size 24 (Nat.le_refl _) [.bool false, .slice none 0 0, .slice none 0 0]
  have hb0 := below_alloc1 w (.cells #[.bool false, .slice none 0 0, .slice none 0 0] 24)
  have HX := Lib.hid (And.intro hb0 hbx)
  clear hb0 hbx
  refine (HA.out.1 _ HX.out.1).mono ?_
  rintro e w1 ⟨v1, rfl, hn1, hb1⟩
  obtain ⟨a1, m1, c1, rfl⟩ := hn1.shape
  have H1 := Lib.hid (And.intro hn1 (below_next' HX.out.1 hb1))
  have hbx1 := HX.out.2.below hb1
  have HX1 := Lib.hid hbx1
  clear hn1 hb1 hbx1 HX
  go_wp2_with fail
  refine (HA.out.2.1 _ H1.out.2).mono ?_
  rintro e w2 ⟨v2, rfl, hn2, hb2⟩
  obtain ⟨a2, m2, c2, rfl⟩ := hn2.shape
  have H2 := Lib.hid (And.intro (H1.out.1.below hb2) (And.intro hn2 (And.intro (below_next' H1.out.2 hb2) (HX1.out.below hb2))))
  clear hn2 hb2 H1 HX1
  have z1 := nt_len H2.out.1
  have z2 := nt_len H2.out.2.1
  obtain ⟨⟨k0, k1, k2⟩, f0, f1, f2⟩ := H2.out.2.2.2.three
  have hlt := H2.out.2.2.2.block.2
  by_cases hz : N = 0 ∨ D = 0
  · have hcase : m1 = 0 ∨ (m1 ≠ 0 ∧ m2 = 0) := by
      rcases hz with h | h
      · exact .inl (z1.2 h)
      · by_cases h' : m1 = 0
        · exact .inl h'
        · exact .inr ⟨h', z2.2 h⟩
    have HZ : Hid (rat neg N D = 0) := by
      rcases hz with h | h
      · rw [h]; exact rat_zero_num _ _
      · rw [h]; exact rat_zero_den _ _
    clear hz z1 z2
    rcases hcase with rfl | ⟨hm, rfl⟩
    all_goals
      try have hm' : ((m1 : Int) == 0) = false := by rw [beq_eq_false_iff_ne]; omega
      go_wp2
      have hb3 := below_set3 H2.out.2.2.1 (g := w.heap.size) (Nat.le_refl _) (.bool false) (.slice none 0 0) (.slice (some ⟨w2.heap.size, 0, none⟩) 1 1)
      obtain ⟨⟨y0, y1, y2⟩, _⟩ := ((H2.out.2.2.2.store3 (.bool false) (.slice none 0 0) (.slice (some ⟨w2.heap.size, 0, none⟩) 1 1)).alloc (.cells #[.int .u32 1] 58)).three
      refine bodyPost_ret (v := .agg #[.bool false, .slice none 0 0, .slice (some ⟨w2.heap.size, 0, none⟩) 1 1]) (by simp [results, Try.results54, go_sem, y0, y1, y2]) rfl ⟨_, rfl, ?_, hb3.alloc hb3.size _⟩
      rw [HZ.out]
      exact ⟨none, 0, 0, _, 1, 1, rfl, Nt.nil _, lim_one (by rw [World.cell?_alloc_at _ _ _ _ (by simp)]; rfl)⟩
  · have hN0 : 0 < N := by omega
    have hD0 : 0 < D := by omega
    have hm1 : ((m1 : Int) == 0) = false := by rw [beq_eq_false_iff_ne]; have := mt z1.1; omega
    have hm2 : ((m2 : Int) == 0) = false := by rw [beq_eq_false_iff_ne]; have := mt z2.1; omega
    clear hz z1 z2
    go_wp2_with fail
    refine (natGcd_any H2.out.1 H2.out.2.1 HA.out.2.2.1 HA.out.2.2.2 HK.out).mono ?_
    rintro e w3 ⟨v3, rfl, hn3, hb3⟩
    obtain ⟨G, hG⟩ : ∃ G, Nat.gcd N D = G := ⟨_, rfl⟩
    rw [hG] at hn3
    have hG0 : 0 < G := by rw [← hG]; exact Nat.gcd_pos_of_pos_left _ hN0
    obtain ⟨a3, m3, c3, rfl⟩ := hn3.shape
    have hn3' := hn3
    obtain ⟨lg, hlg, cg, vg⟩ := hn3
    have hlen : lg.length = m3 := by
      obtain ⟨_, _, e, _⟩ := hlg
      simp only [Value.slice.injEq] at e
      exact e.2.1.symm
    have H3 := Lib.hid (And.intro (H2.out.1.below hb3) (And.intro (H2.out.2.1.below hb3) (And.intro hn3' (And.intro (below_next' H2.out.2.2.1 hb3) (And.intro (H2.out.2.2.2.below hb3) hG)))))
    have hcase : (G = 1 ∧ m3 = 1 ∧ ∃ b o, a3 = some ⟨b, o, none⟩ ∧ w3.cell? ⟨b, o, none⟩ = some (.int .u32 1)) ∨ (m3 ≠ 1) ∨ (m3 = 1 ∧ ∃ (b o x : Nat), a3 = some ⟨b, o, none⟩ ∧ w3.cell? ⟨b, o, none⟩ = some (.int .u32 (x : Int)) ∧ x ≠ 1) := by
      by_cases h1 : m3 = 1
      · obtain ⟨_, _, e, _, _, _, h4⟩ := hlg
        simp only [Value.slice.injEq] at e
        obtain ⟨b, o, e', hc⟩ := h4 0 (by omega)
        rw [Nat.add_zero] at hc
        by_cases hx : nth lg 0 = 1
        · left
          refine ⟨?_, h1, b, o, e.1.trans e', by rw [hx] at hc; exact hc⟩
          rw [← vg]
          match lg, (hlen.trans h1) with
          | [x], _ => rw [show x = 1 from hx]; rfl
        · exact .inr (.inr ⟨h1, b, o, nth lg 0, e.1.trans e', hc, hx⟩)
      · exact .inr (.inl h1)
    have hbl := hb3.size
    clear hn3' hlg cg vg hlen hb3 hG k0 k1 k2 f0 f1 f2
    have hbx4 := H3.out.2.2.2.2.1
    obtain ⟨⟨k0, k1, k2⟩, f0, f1, f2⟩ := hbx4.three
    have HG0 := Lib.hid hG0
    clear hbx4 hG0
    rcases hcase with ⟨hG1, rfl, b, o, rfl, hc⟩ | hcase
    · have HG1 := Lib.hid hG1
      clear hG1
      go_wp2
      obtain ⟨⟨y0, y1, y2⟩, _⟩ := (H3.out.2.2.2.2.1.store3 (.bool neg) (.slice a1 m1 c1) (.slice a2 m2 c2)).three
      refine bodyPost_ret (v := .agg #[.bool neg, .slice a1 m1 c1, .slice a2 m2 c2]) (by simp [results, Try.results54, go_sem, y0, y1, y2]) rfl ⟨_, rfl, ?_, below_set3 H3.out.2.2.2.1 (Nat.le_refl _) _ _ _⟩
      refine RatC.other (w := w3) ?_ H3.out.2.2.2.2.1 noLimb_nil3 (grown_set3 _ _ _ _ _)
      refine ratC_mk hN0 hD0 ?_ ?_
      · rw [H3.out.2.2.2.2.2, HG1.out, Nat.div_one]; exact H3.out.1
      · rw [H3.out.2.2.2.2.2, HG1.out, Nat.div_one]; exact H3.out.2.1
    · rcases hcase with hm3 | ⟨rfl, b, o, x, rfl, hc, hx⟩
      rotate_left 1
      have hxb : ((x : Int) != 1) = true := by simp; omega
      rotate_left 1
      have hxb : ((m3 : Int) != 1) = true := by simp; omega
      all_goals
        go_wp2_with fail
        refine (natDiv_any H3.out.1 H3.out.2.2.1 HG0.out HA.out.2.2.1 HK.out).mono ?_
        rintro e w4 ⟨q1, r1, rfl, hq1, hr1, hb4⟩
        obtain ⟨qa1, qn1, qc1, rfl⟩ := hq1.shape
        have H4 := Lib.hid (And.intro hq1 hb4)
        clear hq1 hr1 hb4 k0 k1 k2 f0 f1 f2
        go_wp2_with fail
        refine (natDiv_any (H3.out.2.1.below H4.out.2) (H3.out.2.2.1.below H4.out.2) HG0.out HA.out.2.2.2 HK.out).mono ?_
        rintro e w5 ⟨q2, r2, rfl, hq2, hr2, hb5⟩
        obtain ⟨qa2, qn2, qc2, rfl⟩ := hq2.shape
        have hb6 := below_next H4.out.2 hb5
        have hbx6 := H3.out.2.2.2.2.1.below hb6
        obtain ⟨⟨k0, k1, k2⟩, f0, f1, f2⟩ := hbx6.three
        have H5 := Lib.hid (And.intro (H4.out.1.below hb5) (And.intro hq2 (And.intro (below_next' H3.out.2.2.2.1 hb6) hbx6)))
        clear hq2 hr2 hb5 hb6 hbx6
        go_wp2
        obtain ⟨⟨y0, y1, y2⟩, _⟩ := (H5.out.2.2.2.store3 (.bool neg) (.slice qa1 qn1 qc1) (.slice qa2 qn2 qc2)).three
        refine bodyPost_ret (v := .agg #[.bool neg, .slice qa1 qn1 qc1, .slice qa2 qn2 qc2]) (by simp [results, Try.results54, go_sem, y0, y1, y2]) rfl ⟨_, rfl, ?_, below_set3 H5.out.2.2.1 (Nat.le_refl _) _ _ _⟩
        refine RatC.other (w := w5) ?_ H5.out.2.2.2 noLimb_nil3 (grown_set3 _ _ _ _ _)
        exact ratC_mk hN0 hD0 (by rw [H3.out.2.2.2.2.2]; exact H5.out.1) (by rw [H3.out.2.2.2.2.2]; exact H5.out.2.1)

end Go.Proofs.Ytdpiclmjdcjajaa

/-
  The reference's walks of Canonical, Neg, Abs, FromInt, Sign and Integral.
-/
namespace Go.Proofs.Ytdpiclmjdcjajaa
open Go.RowKit Num

theorem RatV.build {w : World} {neg s : Bool} {an ad : Option Addr} {n cn m cd k : Nat} {q p : Rat} (h : RatV w neg an n cn ad m cd k q) (hk : k ≤ 80000) (hp : ∀ a b, rat neg a b = q → rat s a b = p) :
    Calls Try.prog 54 #[.bool s, .slice an n cn, .slice ad m cd] w (RatP p w) := by
  obtain ⟨l1, l2, rfl, rfl, h1, h2, k1, k2, hq⟩ := h
  rw [← hp _ _ hq.symm]
  exact build_any s _ _ l1 l2 w h1 h2 (by omega) (by omega)

/-- The end of a walk that stores a number into its result. -/
theorem ratC_end {w w3 : World} {g : Nat} {q : Rat} {yn ad : Option Addr} {yl yc dl dc : Nat} (hbw : Below w.heap.size w w3) (hB : BoxV w3 w.heap.size g 24 [.bool false, .slice none 0 0, .slice none 0 0]) (h : RatC w3 (.agg #[.bool (decide (q.num < 0)), .slice yn yl yc, .slice ad dl dc]) q) :
    RatC (((w3.setCell ⟨g, 0, none⟩ (.bool (decide (q.num < 0)))).setCell ⟨g, 1, none⟩ (.slice yn yl yc)).setCell ⟨g, 2, none⟩ (.slice ad dl dc)) (.agg #[.bool (decide (q.num < 0)), .slice yn yl yc, .slice ad dl dc]) q ∧
      Below w.heap.size w (((w3.setCell ⟨g, 0, none⟩ (.bool (decide (q.num < 0)))).setCell ⟨g, 1, none⟩ (.slice yn yl yc)).setCell ⟨g, 2, none⟩ (.slice ad dl dc)) :=
  ⟨h.other hB noLimb_nil3 (grown_set3 _ _ _ _ _), below_set3 hbw hB.block.1 _ _ _⟩

set_option maxHeartbeats 2000000 in
theorem refCanonical_any (na : Bool) (an ad : Option Addr) (n1 c1 n2 c2 k : Nat) (p : Rat) (w : World) (hp : RatV w na an n1 c1 ad n2 c2 k p) (hk : k ≤ 80000) :
    Calls Try.prog 47 #[.agg #[.bool na, .slice an n1 c1, .slice ad n2 c2]] w (RatP (p) w) := by
  have hbw := below_alloc2 w (.cells #[.bool na, .slice an n1 c1, .slice ad n2 c2] 24) (.cells #[.bool false, .slice none 0 0, .slice none 0 0] 24)
  have hb1 := (alloc2_box w [.bool na, .slice an n1 c1, .slice ad n2 c2] [.bool false, .slice none 0 0, .slice none 0 0] 24).2
  have hc := (hp.below hbw).build (s := na) (p := p) hk (fun a b h => h)
  obtain ⟨q, hq⟩ : ∃ q, p = q := ⟨_, rfl⟩
  rw [hq] at hc ⊢
  have HA := Lib.hid (And.intro hc (And.intro hbw hb1))
  clear hq
  clear hp hc hbw hb1
  go_enter Try.func47, Try.ntmps47
  go_wp2_with fail
  refine HA.out.1.mono ?_
  rintro e w3 ⟨v, rfl, hv, hb3⟩
  have hB5 := HA.out.2.2.below hb3
  have hbb := below_next' HA.out.2.1 hb3
  have HV := Lib.hid hv
  obtain ⟨yn, yl, yc, dn, dl, dc, rfl, _⟩ := hv
  obtain ⟨⟨y0, y1, y2⟩, i0, i1, i2⟩ := hB5.three
  have HF := Lib.hid (And.intro hbb hB5)
  clear hB5 hbb hb3
  go_wp2
  obtain ⟨e1, e2⟩ := ratC_end HF.out.1 HF.out.2 HV.out
  exact bodyPost_ret (v := .agg #[.bool (decide (q.num < 0)), .slice yn yl yc, .slice dn dl dc]) (by simp [results, Try.results47, go_sem, y0, y1, y2]) rfl ⟨_, rfl, e1, e2⟩

set_option maxHeartbeats 2000000 in
theorem refNeg_any (na : Bool) (an ad : Option Addr) (n1 c1 n2 c2 k : Nat) (p : Rat) (w : World) (hp : RatV w na an n1 c1 ad n2 c2 k p) (hk : k ≤ 80000) :
    Calls Try.prog 117 #[.agg #[.bool na, .slice an n1 c1, .slice ad n2 c2]] w (RatP (-p) w) := by
  have hbw := below_alloc2 w (.cells #[.bool na, .slice an n1 c1, .slice ad n2 c2] 24) (.cells #[.bool false, .slice none 0 0, .slice none 0 0] 24)
  have hb1 := (alloc2_box w [.bool na, .slice an n1 c1, .slice ad n2 c2] [.bool false, .slice none 0 0, .slice none 0 0] 24).2
  have hc := (hp.below hbw).build (s := !na) (p := -p) hk (fun a b h => by rw [rat_not, h])
  obtain ⟨q, hq⟩ : ∃ q, -p = q := ⟨_, rfl⟩
  rw [hq] at hc ⊢
  have HA := Lib.hid (And.intro hc (And.intro hbw hb1))
  clear hq
  clear hp hc hbw hb1
  go_enter Try.func117, Try.ntmps117
  go_wp2_with fail
  refine HA.out.1.mono ?_
  rintro e w3 ⟨v, rfl, hv, hb3⟩
  have hB5 := HA.out.2.2.below hb3
  have hbb := below_next' HA.out.2.1 hb3
  have HV := Lib.hid hv
  obtain ⟨yn, yl, yc, dn, dl, dc, rfl, _⟩ := hv
  obtain ⟨⟨y0, y1, y2⟩, i0, i1, i2⟩ := hB5.three
  have HF := Lib.hid (And.intro hbb hB5)
  clear hB5 hbb hb3
  go_wp2
  obtain ⟨e1, e2⟩ := ratC_end HF.out.1 HF.out.2 HV.out
  exact bodyPost_ret (v := .agg #[.bool (decide (q.num < 0)), .slice yn yl yc, .slice dn dl dc]) (by simp [results, Try.results117, go_sem, y0, y1, y2]) rfl ⟨_, rfl, e1, e2⟩

theorem refCanonical_a {w : World} {x : Value} {k : Nat} {p : Rat} (hx : RatA w x k p) (hk : k ≤ 80000) : Calls Try.prog 47 #[x] w (RatP p w) := by
  obtain ⟨_, _, _, _, _, _, _, rfl, h1⟩ := hx.v
  exact refCanonical_any _ _ _ _ _ _ _ k p w h1 hk
theorem refNeg_a {w : World} {x : Value} {k : Nat} {p : Rat} (hx : RatA w x k p) (hk : k ≤ 80000) : Calls Try.prog 117 #[x] w (RatP (-p) w) := by
  obtain ⟨_, _, _, _, _, _, _, rfl, h1⟩ := hx.v
  exact refNeg_any _ _ _ _ _ _ _ k p w h1 hk
/-- A canonical number's sign. -/
theorem num_len {w : World} {a : Option Addr} {n c : Nat} {q : Rat} (h : Nt w (.slice a n c) q.num.natAbs) : n = 0 ↔ q.num = 0 := by
  rw [nt_len h]; omega

set_option maxHeartbeats 2000000 in
theorem refSign_any (na : Bool) (an ad : Option Addr) (n1 c1 n2 c2 k : Nat) (p : Rat) (w : World) (hp : RatV w na an n1 c1 ad n2 c2 k p) (hk : k ≤ 80000) :
    Calls Try.prog 65 #[.agg #[.bool na, .slice an n1 c1, .slice ad n2 c2]] w (SignP p w) := by
  have hbw := below_alloc1 w (.cells #[.bool na, .slice an n1 c1, .slice ad n2 c2] 24)
  have hb1 := BoxV.new w w.heap.size 24 (Nat.le_refl _) [.bool na, .slice an n1 c1, .slice ad n2 c2]
  have hc := refCanonical_a (hp.below hbw).a hk
  have HA := Lib.hid (And.intro hc (And.intro hbw hb1))
  clear hp hc hbw hb1
  go_enter Try.func65, Try.ntmps65
  go_wp2_with fail
  refine HA.out.1.mono ?_
  rintro e w3 ⟨v, rfl, hv, hb3⟩
  have hB5 := HA.out.2.2.below hb3
  have hbb := below_next' HA.out.2.1 hb3
  obtain ⟨yn, yl, yc, dn, dl, dc, rfl, hn, _⟩ := hv
  have hl := num_len hn
  obtain ⟨⟨y0, y1, y2⟩, i0, i1, i2⟩ := hB5.three
  have HF := Lib.hid (below_set3 hbb hB5.block.1 (.bool (decide (p.num < 0))) (.slice yn yl yc) (.slice dn dl dc))
  clear hB5 hbb hb3 hn
  obtain ⟨s, hs⟩ : ∃ s, decide (p.num < 0) = s := ⟨_, rfl⟩
  rw [hs] at HF ⊢
  by_cases h0 : yl = 0
  · have hb : ((yl : Int) == 0) = true := by simp [h0]
    have HS : Hid ((0 : Int) = sgn p) := by
      show (0 : Int) = _
      unfold sgn; rw [if_pos (hl.1 h0)]
    clear hl h0 hs
    go_wp2
    go_ret
    exact ⟨ret_int HS.out, HF.out⟩
  · have hb : ((yl : Int) == 0) = false := by rw [beq_eq_false_iff_ne]; omega
    have hne : ¬ p.num = 0 := fun e => h0 (hl.2 e)
    cases s
    · have HS : Hid ((1 : Int) = sgn p) := by
        show (1 : Int) = _
        unfold sgn; rw [if_neg hne, if_neg (by simpa using hs)]
      clear hl h0 hs hne
      go_wp2
      go_ret
      exact ⟨ret_int HS.out, HF.out⟩
    · have HS : Hid ((-1 : Int) = sgn p) := by
        show (-1 : Int) = _
        unfold sgn; rw [if_neg hne, if_pos (by simpa using hs)]
      clear hl h0 hs hne
      go_wp2
      go_ret
      exact ⟨ret_int HS.out, HF.out⟩

end Go.Proofs.Ytdpiclmjdcjajaa

/-
  The reference's walks of Floor and Ceil.
-/
namespace Go.Proofs.Ytdpiclmjdcjajaa
open Go.RowKit Num

/-- A canonical natural number as a list of limbs. -/
theorem Nt.list {w : World} {v : Value} {x k : Nat} (h : Nt w v x) (hx : x < pw k) : ∃ L, Lim w v L ∧ val L = x ∧ L.length ≤ k := by
  obtain ⟨l, h1, c, e⟩ := h
  exact ⟨l, h1, e, cano_len c (by rw [e]; exact hx)⟩

/-- The last part of the reference's Floor: build of a whole number. -/
theorem ref_whole {w : World} {neg : Bool} {v : Value} {L : List Nat} {m g : Nat} (h : Lim w v L) (hm : val L = m) (h1 : w.cell? ⟨g, 0, none⟩ = some (.int .u32 1)) (hL : L.length ≤ 80000) :
    Calls Try.prog 54 #[.bool neg, v, .slice (some ⟨g, 0, none⟩) 1 1] w (RatP (rat neg m 1) w) := by
  obtain ⟨l1, hl1, c1, e1⟩ := lim_one h1
  have := one_list c1 e1
  subst this
  have h2 := build_any neg v _ L [1] w h hl1 hL (by simp)
  rw [hm, e1] at h2
  exact h2

theorem c1_24 (a : Act) (d : Option Tmp) (ty : TypeId) (pos : String) (es : Array Edge) (g : Option (Nat × Bool)) (t : Tmp) (w : World) :
    Sem.run Try.prog (execOp a.eval ⟨d, .call ⟨.value (.func 47), #[.tmp t], #[24]⟩, ty, pos, es, g⟩) w = .ok (.enter 47 #[a.tmps.getD t undef]) w := by go_simp
theorem c1_28 (a : Act) (d : Option Tmp) (ty : TypeId) (pos : String) (es : Array Edge) (g : Option (Nat × Bool)) (t : Tmp) (w : World) :
    Sem.run Try.prog (execOp a.eval ⟨d, .call ⟨.value (.func 65), #[.tmp t], #[24]⟩, ty, pos, es, g⟩) w = .ok (.enter 65 #[a.tmps.getD t undef]) w := by go_simp
theorem c1_32 (a : Act) (d : Option Tmp) (ty : TypeId) (pos : String) (es : Array Edge) (g : Option (Nat × Bool)) (t : Tmp) (w : World) :
    Sem.run Try.prog (execOp a.eval ⟨d, .call ⟨.value (.func 117), #[.tmp t], #[24]⟩, ty, pos, es, g⟩) w = .ok (.enter 117 #[a.tmps.getD t undef]) w := by go_simp
theorem c2_36 (a : Act) (d : Option Tmp) (ty : TypeId) (pos : String) (es : Array Edge) (g : Option (Nat × Bool)) (t u : Tmp) (w : World) :
    Sem.run Try.prog (execOp a.eval ⟨d, .call ⟨.value (.func 44), #[.tmp t, .tmp u], #[24, 24]⟩, ty, pos, es, g⟩) w = .ok (.enter 44 #[a.tmps.getD t undef, a.tmps.getD u undef]) w := by go_simp
theorem c2_38 (a : Act) (d : Option Tmp) (ty : TypeId) (pos : String) (es : Array Edge) (g : Option (Nat × Bool)) (t u : Tmp) (w : World) :
    Sem.run Try.prog (execOp a.eval ⟨d, .call ⟨.value (.func 81), #[.tmp t, .tmp u], #[24, 24]⟩, ty, pos, es, g⟩) w = .ok (.enter 81 #[a.tmps.getD t undef, a.tmps.getD u undef]) w := by go_simp
theorem c2_40 (a : Act) (d : Option Tmp) (ty : TypeId) (pos : String) (es : Array Edge) (g : Option (Nat × Bool)) (t u : Tmp) (w : World) :
    Sem.run Try.prog (execOp a.eval ⟨d, .call ⟨.value (.func 68), #[.tmp t, .tmp u], #[24, 24]⟩, ty, pos, es, g⟩) w = .ok (.enter 68 #[a.tmps.getD t undef, a.tmps.getD u undef]) w := by go_simp
theorem c2_42 (a : Act) (d : Option Tmp) (ty : TypeId) (pos : String) (es : Array Edge) (g : Option (Nat × Bool)) (t u : Tmp) (w : World) :
    Sem.run Try.prog (execOp a.eval ⟨d, .call ⟨.value (.func 45), #[.tmp t, .tmp u], #[24, 24]⟩, ty, pos, es, g⟩) w = .ok (.enter 45 #[a.tmps.getD t undef, a.tmps.getD u undef]) w := by go_simp

section
variable {κ : Tmp → Kd} {G : Nat → Option Tmp} {d t u c : Tmp} {ty : TypeId} {pos : String} {es : Array Edge} {g : Option (Nat × Bool)} {k1 k2 : Nat} {p q : Rat}
end

end Go.Proofs.Ytdpiclmjdcjajaa

/-
  What the slots hold in the reference's walks, and the steps of their regions.
-/
namespace Go.Proofs.Ytdpiclmjdcjajaa
open Go.RowKit Num

/-- What a slot holds. -/
structure Ke where
  holds : World → Value → Prop
  below : ∀ {w w' : World} {v : Value}, Below w.heap.size w w' → holds w v → holds w' v

def Fe (κ : Tmp → Ke) : Tmp → World → Value → Prop := fun t => (κ t).holds
theorem Fe.mono (κ : Tmp → Ke) : ∀ t w w' v, Below w.heap.size w w' → Fe κ t w v → Fe κ t w' v := fun t _ _ _ hb h => (κ t).below hb h
theorem Fe.draw (κ : Tmp → Ke) {W : World} : ∀ t v, Fe κ t W v → Fe κ t { W with drawn := W.drawn + 1 } v := fun t _ h => (κ t).below (Below.refl _ _).drew h

def Ke.any : Ke := ⟨fun _ _ => True, fun _ h => h⟩
def Ke.con (u : Value) : Ke := ⟨fun _ v => v = u, fun _ h => h⟩
def Ke.box (k : Nat) (q : Rat) : Ke := ⟨(Kd.boxC k q).holds, fun hb h => Kd.below hb h⟩
def Ke.adB (s : Bool) : Ke := ⟨fun w v => ∃ g j, v = .pointer (some ⟨g, j, none⟩) ∧ w.cell? ⟨g, j, none⟩ = some (.bool s), fun hb ⟨g, j, e, h⟩ => ⟨g, j, e, cell_below hb h⟩⟩
def Ke.adN (k x : Nat) : Ke := ⟨fun w v => ∃ g j u, v = .pointer (some ⟨g, j, none⟩) ∧ w.cell? ⟨g, j, none⟩ = some u ∧ Nt w u x ∧ x < pw k, fun hb ⟨g, j, u, e, h, hn, hx⟩ => ⟨g, j, u, e, cell_below hb h, hn.below hb, hx⟩⟩
def Ke.nt (k x : Nat) : Ke := ⟨fun w v => Nt w v x ∧ x < pw k, fun hb h => ⟨h.1.below hb, h.2⟩⟩
def Ke.list (n x : Nat) : Ke := ⟨fun w v => ∃ L, Lim w v L ∧ val L = x ∧ L.length ≤ n, fun hb ⟨L, h, e, n⟩ => ⟨L, h.below hb, e, n⟩⟩
def Ke.ratC (q : Rat) : Ke := ⟨fun w v => RatC w v q, fun hb h => h.below hb⟩

/-- A number, as a list of limbs. -/
def Ke.isList (κ : Ke) (n x : Nat) : Prop := κ = .nt n x ∨ κ = .list n x
theorem Ke.isList.list {κ : Ke} {n x : Nat} (h : κ.isList n x) {w : World} {v : Value} (hv : κ.holds w v) : ∃ L, Lim w v L ∧ val L = x ∧ L.length ≤ n := by
  rcases h with rfl | rfl
  · exact hv.1.list hv.2
  · exact hv

theorem run_field (a : Act) (d : Option Tmp) (ty : TypeId) (pos : String) (es : Array Edge) (gd : Option (Nat × Bool)) (w : World) (t : Tmp) (g : Nat)
    (ht : a.tmps.getD t undef = .pointer (some ⟨g, 0, none⟩)) :
    Sem.run Try.prog (execOp a.eval ⟨d, .fieldAddr 24 (.tmp t) 0, ty, pos, es, gd⟩) w = .ok (.value (.pointer (some ⟨g, 0, none⟩))) w ∧
    Sem.run Try.prog (execOp a.eval ⟨d, .fieldAddr 24 (.tmp t) 1, ty, pos, es, gd⟩) w = .ok (.value (.pointer (some ⟨g, 1, none⟩))) w ∧
    Sem.run Try.prog (execOp a.eval ⟨d, .fieldAddr 24 (.tmp t) 2, ty, pos, es, gd⟩) w = .ok (.value (.pointer (some ⟨g, 2, none⟩))) w := by
  refine ⟨?_, ?_, ?_⟩ <;> go_simp

theorem run_load4 (a : Act) (d : Option Tmp) (ty : TypeId) (pos : String) (es : Array Edge) (gd : Option (Nat × Bool)) (w : World) (t : Tmp) (g j : Nat) (s : Bool)
    (ht : a.tmps.getD t undef = .pointer (some ⟨g, j, none⟩)) (h0 : w.cell? ⟨g, j, none⟩ = some (.bool s)) :
    Sem.run Try.prog (execOp a.eval ⟨d, .load 4 (.tmp t), ty, pos, es, gd⟩) w = .ok (.value (.bool s)) w := by
  go_simp
theorem run_load22 (a : Act) (d : Option Tmp) (ty : TypeId) (pos : String) (es : Array Edge) (gd : Option (Nat × Bool)) (w : World) (t : Tmp) (g j : Nat) (b : Option Addr) (n c : Nat)
    (ht : a.tmps.getD t undef = .pointer (some ⟨g, j, none⟩)) (h0 : w.cell? ⟨g, j, none⟩ = some (.slice b n c)) :
    Sem.run Try.prog (execOp a.eval ⟨d, .load 22 (.tmp t), ty, pos, es, gd⟩) w = .ok (.value (.slice b n c)) w := by
  go_simp

theorem c3_58 (a : Act) (d : Option Tmp) (ty : TypeId) (pos : String) (es : Array Edge) (g : Option (Nat × Bool)) (s t u : Tmp) (w : World) :
    Sem.run Try.prog (execOp a.eval ⟨d, .call ⟨.value (.func 54), #[.tmp s, .tmp t, .tmp u], #[4, 22, 22]⟩, ty, pos, es, g⟩) w = .ok (.enter 54 #[a.tmps.getD s undef, a.tmps.getD t undef, a.tmps.getD u undef]) w := by go_simp
theorem c2_74 (a : Act) (d : Option Tmp) (ty : TypeId) (pos : String) (es : Array Edge) (g : Option (Nat × Bool)) (t u : Tmp) (w : World) :
    Sem.run Try.prog (execOp a.eval ⟨d, .call ⟨.value (.func 86), #[.tmp t, .tmp u], #[22, 22]⟩, ty, pos, es, g⟩) w = .ok (.enter 86 #[a.tmps.getD t undef, a.tmps.getD u undef]) w := by go_simp
theorem c2_75 (a : Act) (d : Option Tmp) (ty : TypeId) (pos : String) (es : Array Edge) (g : Option (Nat × Bool)) (t u : Tmp) (w : World) :
    Sem.run Try.prog (execOp a.eval ⟨d, .call ⟨.value (.func 87), #[.tmp t, .tmp u], #[22, 22]⟩, ty, pos, es, g⟩) w = .ok (.enter 87 #[a.tmps.getD t undef, a.tmps.getD u undef]) w := by go_simp
theorem c2_76 (a : Act) (d : Option Tmp) (ty : TypeId) (pos : String) (es : Array Edge) (g : Option (Nat × Bool)) (t u : Tmp) (w : World) :
    Sem.run Try.prog (execOp a.eval ⟨d, .call ⟨.value (.func 89), #[.tmp t, .tmp u], #[22, 22]⟩, ty, pos, es, g⟩) w = .ok (.enter 89 #[a.tmps.getD t undef, a.tmps.getD u undef]) w := by go_simp
theorem c2_55 (a : Act) (d : Option Tmp) (ty : TypeId) (pos : String) (es : Array Edge) (g : Option (Nat × Bool)) (t u : Tmp) (w : World) :
    Sem.run Try.prog (execOp a.eval ⟨d, .call ⟨.value (.func 88), #[.tmp t, .tmp u], #[22, 22]⟩, ty, pos, es, g⟩) w = .ok (.enter 88 #[a.tmps.getD t undef, a.tmps.getD u undef]) w := by go_simp

section
variable {κ : Tmp → Ke} {G : Nat → Option Tmp} {d s t u c : Tmp} {ty : TypeId} {pos : String} {es : Array Edge} {k k1 k2 x y : Nat} {p q : Rat}

/-- A step without a guard. -/
theorem e_step {o : Oper} (hg : o.guard = none)
    (h : ∀ (a : Act) (w : World) (Q : Exit → Act → World → Prop), (∀ t, .tmp t ∈ o.op.operands.toList → (κ t).holds w (a.tmps.getD t undef)) → o.wp Try.prog a w (fun a' w' => ∃ v, a' = a.put o.dst v ∧ Below w.heap.size w w' ∧ ∀ d, o.dst = some d → (κ d).holds w' v) Q) :
    FlowStep Try.prog (Fe κ) G o := step_yes (F := Fe κ) (G := G) (by rw [hg]; trivial) h

set_option maxRecDepth 100000 in
theorem e_field (ht : κ t = .box k q) :
    ((κ d = .adB (decide (q.num < 0))) → FlowStep Try.prog (Fe κ) G ⟨some d, .fieldAddr 24 (.tmp t) 0, ty, pos, es, none⟩) ∧
    ((κ d = .adN k q.num.natAbs) → FlowStep Try.prog (Fe κ) G ⟨some d, .fieldAddr 24 (.tmp t) 1, ty, pos, es, none⟩) ∧
    ((κ d = .adN k q.den) → FlowStep Try.prog (Fe κ) G ⟨some d, .fieldAddr 24 (.tmp t) 2, ty, pos, es, none⟩) := by
  refine ⟨fun hd => ?_, fun hd => ?_, fun hd => ?_⟩
  all_goals
    refine e_step rfl fun a w Q hf => ?_
    have h := hf t (by simp [Op.operands])
    rw [ht] at h
    obtain ⟨b, x0, x1, x2, e, c0, c1, c2, ⟨an, ln, cn, ad, ld, cd, hv, hn, hdn⟩, hs⟩ := h
    have hv' := hv
    simp only [Value.agg.injEq, Array.mk.injEq, List.cons.injEq, and_true] at hv'
    obtain ⟨rfl, rfl, rfl⟩ := hv'
    unfold Oper.wp
  · rw [(run_field _ _ _ _ _ _ _ _ b e).1, Oper.upon_value]
    exact ⟨_, rfl, Below.refl _ _, fun d' hd' => by cases hd'; rw [hd]; exact ⟨_, _, rfl, c0⟩⟩
  · rw [(run_field _ _ _ _ _ _ _ _ b e).2.1, Oper.upon_value]
    exact ⟨_, rfl, Below.refl _ _, fun d' hd' => by cases hd'; rw [hd]; exact ⟨_, _, _, rfl, c1, hn, hs.1⟩⟩
  · rw [(run_field _ _ _ _ _ _ _ _ b e).2.2, Oper.upon_value]
    exact ⟨_, rfl, Below.refl _ _, fun d' hd' => by cases hd'; rw [hd]; exact ⟨_, _, _, rfl, c2, hdn, hs.2⟩⟩

theorem e_loadB {b : Bool} (ht : κ t = .adB b) (hd : κ d = .con (.bool b)) : FlowStep Try.prog (Fe κ) G ⟨some d, .load 4 (.tmp t), ty, pos, es, none⟩ := by
  refine e_step rfl fun a w Q hf => ?_
  have h := hf t (by simp [Op.operands])
  rw [ht] at h
  obtain ⟨g, j, e, hc⟩ := h
  unfold Oper.wp
  rw [run_load4 _ _ _ _ _ _ _ _ g j b e hc, Oper.upon_value]
  exact ⟨_, rfl, Below.refl _ _, fun d' hd' => by cases hd'; rw [hd]; rfl⟩
theorem e_loadN (ht : κ t = .adN k x) (hd : κ d = .nt k x) : FlowStep Try.prog (Fe κ) G ⟨some d, .load 22 (.tmp t), ty, pos, es, none⟩ := by
  refine e_step rfl fun a w Q hf => ?_
  have h := hf t (by simp [Op.operands])
  rw [ht] at h
  obtain ⟨g, j, u, e, hc, hn, hx⟩ := h
  obtain ⟨ua, un, uc, rfl⟩ := hn.shape
  unfold Oper.wp
  rw [run_load22 _ _ _ _ _ _ _ _ g j ua un uc e hc, Oper.upon_value]
  exact ⟨_, rfl, Below.refl _ _, fun d' hd' => by cases hd'; rw [hd]; exact ⟨hn, hx⟩⟩
theorem e_move (hd : κ d = κ t) : FlowStep Try.prog (Fe κ) G ⟨some d, .move (.tmp t), ty, pos, es, none⟩ := by
  refine e_step rfl fun a w Q hf => ?_
  have h := hf t (by simp [Op.operands])
  unfold Oper.wp
  have hr : Sem.run Try.prog (execOp a.eval ⟨some d, .move (.tmp t), ty, pos, es, none⟩) w = .ok (.value (a.tmps.getD t undef)) w := by go_simp
  rw [hr, Oper.upon_value]
  exact ⟨_, rfl, Below.refl _ _, fun d' hd' => by cases hd'; rw [hd]; exact h⟩
theorem e_assign (hd : κ d = κ t) : FlowStep Try.prog (Fe κ) G ⟨some d, .assign (.tmp t), ty, pos, es, none⟩ := by
  refine e_step rfl fun a w Q hf => ?_
  have h := hf t (by simp [Op.operands])
  unfold Oper.wp
  have hr : Sem.run Try.prog (execOp a.eval ⟨some d, .assign (.tmp t), ty, pos, es, none⟩) w = .ok (.value (a.tmps.getD t undef)) w := by go_simp
  rw [hr, Oper.upon_value]
  exact ⟨_, rfl, Below.refl _ _, fun d' hd' => by cases hd'; rw [hd]; exact h⟩

/-- An operation that only reckons with two slots. -/
theorem e_bi {op : Op} {v v' r : Value} (hm : .tmp t ∈ op.operands.toList) (hm' : .tmp u ∈ op.operands.toList) (ht : κ t = .con v) (hu : κ u = .con v') (hd : κ d = .con r)
    (hrun : ∀ (a : Act) (w : World), a.tmps.getD t undef = v → a.tmps.getD u undef = v' → Sem.run Try.prog (execOp a.eval ⟨some d, op, ty, pos, es, none⟩) w = .ok (.value r) w) : FlowStep Try.prog (Fe κ) G ⟨some d, op, ty, pos, es, none⟩ := by
  refine e_step rfl fun a w Q hf => ?_
  have h := hf t hm
  have h' := hf u hm'
  rw [ht] at h
  rw [hu] at h'
  unfold Oper.wp
  rw [hrun a w h h', Oper.upon_value]
  exact ⟨_, rfl, Below.refl _ _, fun d' hd' => by cases hd'; rw [hd]; rfl⟩
theorem e_bneq {b b' : Bool} (ht : κ t = .con (.bool b)) (hu : κ u = .con (.bool b')) (hd : κ d = .con (.bool (b != b'))) : FlowStep Try.prog (Fe κ) G ⟨some d, .binOp .neq 4 (.tmp t) (.tmp u) 4, ty, pos, es, none⟩ :=
  e_bi (by simp [Op.operands]) (by simp [Op.operands]) ht hu hd fun a w h h' => by cases b <;> cases b' <;> go_simp
theorem e_beql {b b' : Bool} (ht : κ t = .con (.bool b)) (hu : κ u = .con (.bool b')) (hd : κ d = .con (.bool (b == b'))) : FlowStep Try.prog (Fe κ) G ⟨some d, .binOp .eql 4 (.tmp t) (.tmp u) 4, ty, pos, es, none⟩ :=
  e_bi (by simp [Op.operands]) (by simp [Op.operands]) ht hu hd fun a w h h' => by cases b <;> cases b' <;> go_simp

theorem e_call2 {f : FuncId} (hrun : ∀ (a : Act) (w : World), Sem.run Try.prog (execOp a.eval ⟨some d, .call ⟨.value (.func f), #[.tmp t, .tmp u], #[22, 22]⟩, ty, pos, es, none⟩) w = .ok (.enter f #[a.tmps.getD t undef, a.tmps.getD u undef]) w)
    (hc : ∀ w x y, (κ t).holds w x → (κ u).holds w y → Calls Try.prog f #[x, y] w (fun e w' => ∃ r, e = .returned r ∧ (κ d).holds w' r ∧ Below w.heap.size w w')) :
    FlowStep Try.prog (Fe κ) G ⟨some d, .call ⟨.value (.func f), #[.tmp t, .tmp u], #[22, 22]⟩, ty, pos, es, none⟩ := by
  refine e_step rfl fun a w Q hf => ?_
  unfold Oper.wp
  rw [hrun, Oper.upon_enter]
  refine (hc w _ _ (hf t (by simp [Op.operands, Call.operands])) (hf u (by simp [Op.operands, Call.operands]))).mono ?_
  rintro e w' ⟨r, rfl, hr, hb⟩
  exact ⟨r, rfl, hb, fun d' hd' => by cases hd'; exact hr⟩

theorem e_mul (ht : κ t = .nt k x) (hu : κ u = .nt k y) (hd : κ d = .nt (k + k) (x * y)) (hk : k ≤ 100000) : FlowStep Try.prog (Fe κ) G ⟨some d, .call ⟨.value (.func 86), #[.tmp t, .tmp u], #[22, 22]⟩, ty, pos, es, none⟩ :=
  e_call2 (fun a w => c2_74 a _ _ _ _ _ _ _ w) fun w v1 v2 h1 h2 => by
    rw [ht] at h1
    rw [hu] at h2
    refine (natMul_any h1.1 h2.1 h1.2 h2.2 hk).mono fun e w' ⟨v, he, hv, hb⟩ => ⟨v, he, ?_, hb⟩
    rw [hd]
    exact ⟨hv, by rw [pw_add]; exact Nat.mul_lt_mul_of_lt_of_lt h1.2 h2.2⟩
theorem e_add (ht : κ t = .nt k x) (hu : κ u = .nt k y) (hd : κ d = .list (k + k + 1) (x + y)) (hk : k ≤ 100000) : FlowStep Try.prog (Fe κ) G ⟨some d, .call ⟨.value (.func 87), #[.tmp t, .tmp u], #[22, 22]⟩, ty, pos, es, none⟩ :=
  e_call2 (fun a w => c2_75 a _ _ _ _ _ _ _ w) fun w v1 v2 h1 h2 => by
    rw [ht] at h1
    rw [hu] at h2
    obtain ⟨⟨l1, h1, c1, rfl⟩, b1⟩ := h1
    obtain ⟨⟨l2, h2, c2, rfl⟩, b2⟩ := h2
    have n1 := cano_len c1 b1
    have n2 := cano_len c2 b2
    refine (natAdd_lim _ _ l1 l2 w h1 h2 c1.1 c2.1 (by omega) (by omega)).mono fun e w' ⟨v, L, he, hv, hs, hn, hb⟩ => ⟨v, he, ?_, hb⟩
    rw [hd]
    exact ⟨L, hv, hs, by omega⟩
theorem e_sub (ht : κ t = .nt k x) (hu : κ u = .nt k y) (hd : κ d = .nt k (x - y)) (hle : y ≤ x) (hk : k ≤ 100000) : FlowStep Try.prog (Fe κ) G ⟨some d, .call ⟨.value (.func 89), #[.tmp t, .tmp u], #[22, 22]⟩, ty, pos, es, none⟩ :=
  e_call2 (fun a w => c2_76 a _ _ _ _ _ _ _ w) fun w v1 v2 h1 h2 => by
    rw [ht] at h1
    rw [hu] at h2
    refine (natSub_any h1.1 h2.1 h1.2 (by omega) hle).mono fun e w' ⟨v, he, hv, hb⟩ => ⟨v, he, ?_, hb⟩
    rw [hd]
    exact ⟨hv, Nat.lt_of_le_of_lt (Nat.sub_le _ _) h1.2⟩
theorem e_cmp (ht : κ t = .nt k x) (hu : κ u = .nt k y) (hd : κ d = .con (.int .i64 (cmpI x y))) : FlowStep Try.prog (Fe κ) G ⟨some d, .call ⟨.value (.func 88), #[.tmp t, .tmp u], #[22, 22]⟩, ty, pos, es, none⟩ :=
  e_call2 (fun a w => c2_55 a _ _ _ _ _ _ _ w) fun w v1 v2 h1 h2 => by
    rw [ht] at h1
    rw [hu] at h2
    refine (natCmp_nt h1.1 h2.1).mono fun e w' ⟨he, n, hb⟩ => ⟨_, he, ?_, by rw [hb]; exact below_drewN (Below.refl _ _) n⟩
    rw [hd]
    rfl

set_option maxRecDepth 100000 in
theorem e_build {b : Bool} {n m : Nat} (hs : κ s = .con (.bool b)) (ht : (κ t).isList n x) (hu : (κ u).isList m y) (hd : κ d = .ratC p) (hp : rat b x y = p) (hn : n ≤ 80000) (hm : m ≤ 80000) :
    FlowStep Try.prog (Fe κ) G ⟨some d, .call ⟨.value (.func 54), #[.tmp s, .tmp t, .tmp u], #[4, 22, 22]⟩, ty, pos, es, none⟩ := by
  refine e_step rfl fun a w Q hf => ?_
  have h0 := hf s (by simp [Op.operands, Call.operands])
  have h1 := ht.list (hf t (by simp [Op.operands, Call.operands]))
  have h2 := hu.list (hf u (by simp [Op.operands, Call.operands]))
  rw [hs] at h0
  obtain ⟨l1, hl1, e1, n1⟩ := h1
  obtain ⟨l2, hl2, e2, n2⟩ := h2
  unfold Oper.wp
  rw [c3_58, Oper.upon_enter]
  have h0' : a.tmps.getD s undef = .bool b := h0
  rw [h0']
  refine (build_any b _ _ l1 l2 w hl1 hl2 (by omega) (by omega)).mono ?_
  rintro e w' ⟨v, rfl, hv, hb⟩
  rw [e1, e2, hp] at hv
  exact ⟨v, rfl, hb, fun d' hd' => by cases hd'; rw [hd]; exact hv⟩
end

/-- A number is stored into a variable. -/
theorem e_store {ops : Array Oper} {Q : Exit → Act → World → Prop} {K : Act → World → Prop} {m t u B g : Nat} {q : Rat} {a : Act} {w : World} {ty : TypeId} {pos : String} {es : Array Edge} {x' y' z' : Value}
    (ho : ops[m]? = some ⟨none, .store 24 (.tmp t) (.tmp u), ty, pos, es, none⟩) (ht : a.tmps.getD t undef = .pointer (some ⟨g, 0, none⟩)) (hb : BoxV w B g 24 [x', y', z']) (hu : RatC w (a.tmps.getD u undef) q)
    (h : ∀ an ln cn ad ld cd, RatC w (.agg #[.bool (decide (q.num < 0)), .slice an ln cn, .slice ad ld cd]) q → K a (((w.setCell ⟨g, 0, none⟩ (.bool (decide (q.num < 0)))).setCell ⟨g, 1, none⟩ (.slice an ln cn)).setCell ⟨g, 2, none⟩ (.slice ad ld cd))) :
    wpOp Try.prog ops Q m K a w := by
  unfold wpOp
  rw [ho]
  simp only [Region.wanted, if_true]
  left
  obtain ⟨an, ln, cn, ad, ld, cd, hv, hn, hd⟩ := hu
  unfold Oper.wp
  rw [run_store24 a none ty pos es w t u B g _ an ad ln cn ld cd _ _ _ ht hv hb, Oper.upon_skip]
  exact h an ln cn ad ld cd ⟨_, _, _, _, _, _, rfl, hn, hd⟩

/-- Two numbers have been stored into their variables. -/
structure TwoC (B g0 g1 : Nat) (p q : Rat) (w W : World) : Prop where
  b0 : ∃ x y z, BoxV W B g0 24 [x, y, z] ∧ RatC W (.agg #[x, y, z]) p
  b1 : ∃ x y z, BoxV W B g1 24 [x, y, z] ∧ RatC W (.agg #[x, y, z]) q
  bel : ∀ W0, Below B W0 w → Below B W0 W
  kept : ∀ g' xs, BoxV w B g' 24 xs → g' ≠ g0 → g' ≠ g1 → BoxV W B g' 24 xs

theorem two_stores {ops : Array Oper} {Q : Exit → Act → World → Prop} {m t t' u u' B g0 g1 : Nat} {p q : Rat} {a : Act} {w : World} {ty ty' : TypeId} {pos pos' : String} {es es' : Array Edge} {x y z x' y' z' : Value}
    (ho : ops[m]? = some ⟨none, .store 24 (.tmp t) (.tmp u), ty, pos, es, none⟩) (ho' : ops[m + 1]? = some ⟨none, .store 24 (.tmp t') (.tmp u'), ty', pos', es', none⟩)
    (ht : a.tmps.getD t undef = .pointer (some ⟨g0, 0, none⟩)) (ht' : a.tmps.getD t' undef = .pointer (some ⟨g1, 0, none⟩))
    (hb0 : BoxV w B g0 24 [x, y, z]) (hb1 : BoxV w B g1 24 [x', y', z']) (hx0 : NoLimb [x, y, z]) (hx1 : NoLimb [x', y', z']) (hne : g0 ≠ g1)
    (hu : RatC w (a.tmps.getD u undef) p) (hu' : RatC w (a.tmps.getD u' undef) q) (h : ∀ W, TwoC B g0 g1 p q w W → Q .normal a W) :
    runFrom Try.prog ops Q 2 m a w := by
  simp only [runFrom]
  refine e_store ho ht hb0 hu fun an ln cn ad ld cd hp => ?_
  have g1' := grown_set3 w g0 (.bool (decide (p.num < 0))) (.slice an ln cn) (.slice ad ld cd)
  have k0 := hb0.store3 (.bool (decide (p.num < 0))) (.slice an ln cn) (.slice ad ld cd)
  have k1 := hb1.kept g1' (by simpa using fun e => hne e.symm)
  have hp' := hp.other hb0 hx0 g1'
  have hq' := hu'.other hb0 hx0 g1'
  have hbel : ∀ W0, Below B W0 w → Below B W0 (((w.setCell ⟨g0, 0, none⟩ (.bool (decide (p.num < 0)))).setCell ⟨g0, 1, none⟩ (.slice an ln cn)).setCell ⟨g0, 2, none⟩ (.slice ad ld cd)) := fun W0 hW => below_set3 hW hb0.block.1 _ _ _
  generalize ((w.setCell ⟨g0, 0, none⟩ (.bool (decide (p.num < 0)))).setCell ⟨g0, 1, none⟩ (.slice an ln cn)).setCell ⟨g0, 2, none⟩ (.slice ad ld cd) = w2 at *
  refine e_store ho' ht' k1 hq' fun an' ln' cn' ad' ld' cd' hq2 => ?_
  have g2' := grown_set3 w2 g1 (.bool (decide (q.num < 0))) (.slice an' ln' cn') (.slice ad' ld' cd')
  refine h _ ⟨⟨_, _, _, k0.kept g2' (by simpa using hne), hp'.other k1 hx1 g2'⟩, ⟨_, _, _, k1.store3 _ _ _, hq2.other k1 hx1 g2'⟩, fun W0 hW => below_set3 (hbel W0 hW) k1.block.1 _ _ _, fun g' xs hbx n0 n1 => ?_⟩
  exact (hbx.kept g1' (by simpa using n0)).kept g2' (by simpa using n1)

/-- A variable that holds a number. -/
theorem box_any {W : World} {B g t k : Nat} {neg : Bool} {an ad : Option Addr} {n cn m cd : Nat} {q : Rat} (hb : BoxV W B g t [.bool neg, .slice an n cn, .slice ad m cd]) (hv : RatV W neg an n cn ad m cd k q) : (Kd.box (k + 1) q).holds W (.pointer (some ⟨g, 0, none⟩)) := by
  obtain ⟨⟨c0, c1, c2⟩, _⟩ := hb.three
  exact ⟨g, _, _, _, rfl, c0, c1, c2, hv.a.le (by omega), hv.sz⟩

section
variable {κ : Tmp → Kd} {G : Nat → Option Tmp} {d t : Tmp} {ty : TypeId} {pos : String} {es : Array Edge} {g : Option (Nat × Bool)} {k1 : Nat} {p : Rat}
theorem fl_refCanon (hg : GuardYes (Fk κ) G g) (ht : (κ t).isRat k1 p) (hd : κ d = .ratC k1 p) (hk : k1 ≤ 80000) :
    FlowStep Try.prog (Fk κ) G ⟨some d, .call ⟨.value (.func 47), #[.tmp t], #[24]⟩, ty, pos, es, g⟩ :=
  fl_call1 (fun a w => c1_24 a _ _ _ _ _ _ w) hg fun w x hx => (refCanonical_a (ht.a hx (Nat.le_refl _)) hk).mono fun e w' ⟨v, he, hv, hb⟩ => ⟨v, he, by rw [hd]; exact ⟨hv, ht.sz hx⟩, hb⟩
theorem fl_refNeg (hg : GuardYes (Fk κ) G g) (ht : (κ t).isRat k1 p) (hd : κ d = .ratC k1 (-p)) (hk : k1 ≤ 80000) :
    FlowStep Try.prog (Fk κ) G ⟨some d, .call ⟨.value (.func 117), #[.tmp t], #[24]⟩, ty, pos, es, g⟩ :=
  fl_call1 (fun a w => c1_32 a _ _ _ _ _ _ w) hg fun w x hx => (refNeg_a (ht.a hx (Nat.le_refl _)) hk).mono fun e w' ⟨v, he, hv, hb⟩ => ⟨v, he, by rw [hd]; exact ⟨hv, sz_neg (ht.sz hx)⟩, hb⟩
end

end Go.Proofs.Ytdpiclmjdcjajaa

/-
  The reference's walks of Mul, Sub and Cmp.
-/
namespace Go.Proofs.Ytdpiclmjdcjajaa
open Go.RowKit Num

theorem ref_mul_eq (p q : Rat) : rat ((decide (p.num < 0)) != (decide (q.num < 0))) (p.num.natAbs * q.num.natAbs) (p.den * q.den) = p * q := by
  rw [← rat_mul, rat_self, rat_self]
theorem ref_div_eq (p q : Rat) : rat ((decide (p.num < 0)) != (decide (q.num < 0))) (p.num.natAbs * q.den) (p.den * q.num.natAbs) = p / q := by
  rw [← rat_mul, rat_self, rat_inv, rat_self, Rat.div_def]

/-- What the region of two numbers made canonical leaves. -/
structure CanonR (n g0 g1 g2 K : Nat) (p q : Rat) (w : World) (a : Act) (W : World) : Prop where
  e2 : a.tmps.getD 2 undef = .pointer (some ⟨g0, 0, none⟩)
  e3 : a.tmps.getD 3 undef = .pointer (some ⟨g1, 0, none⟩)
  e4 : a.tmps.getD 4 undef = .pointer (some ⟨g2, 0, none⟩)
  size : a.tmps.size = n
  defers : a.defers = []
  k2 : (Kd.boxC K p).holds W (.pointer (some ⟨g0, 0, none⟩))
  k3 : (Kd.boxC K q).holds W (.pointer (some ⟨g1, 0, none⟩))
  res : BoxV W w.heap.size g2 24 [.bool false, .slice none 0 0, .slice none 0 0]
  bel : Below w.heap.size w W

def mulA (K : Nat) (p q : Rat) : Tmp → Kd := fun t => ([.any, .any, .box K p, .box K q, .any, .rat K p, .ratC K p, .rat K q, .ratC K q] : List Kd).getD t .any

def mulB (K : Nat) (p q r : Rat) : Tmp → Ke := fun t => ([.any, .any, .box K p, .box K q, .any, .any, .any, .any, .any, .adB (decide (p.num < 0)), .con (.bool (decide (p.num < 0))), .adB (decide (q.num < 0)), .con (.bool (decide (q.num < 0))), .con (.bool ((decide (p.num < 0)) != (decide (q.num < 0)))), .adN K p.num.natAbs, .nt K p.num.natAbs, .adN K q.num.natAbs, .nt K q.num.natAbs, .nt (K + K) (p.num.natAbs * q.num.natAbs), .adN K p.den, .nt K p.den, .adN K q.den, .nt K q.den, .nt (K + K) (p.den * q.den), .ratC r] : List Ke).getD t .any

set_option maxRecDepth 100000 in
set_option maxHeartbeats 4000000 in
theorem refMul_any (na nb : Bool) (an ad bn bd : Option Addr) (n1 c1 n2 c2 m1 e1 m2 e2 k : Nat) (p q : Rat) (w : World) (hp : RatV w na an n1 c1 ad n2 c2 k p) (hq : RatV w nb bn m1 e1 bd m2 e2 k q) (hk : k ≤ 20000) :
    Calls Try.prog 45 #[.agg #[.bool na, .slice an n1 c1, .slice ad n2 c2], .agg #[.bool nb, .slice bn m1 e1, .slice bd m2 e2]] w (RatP (p * q) w) := by
  obtain ⟨r, hr⟩ : ∃ r, p * q = r := ⟨_, rfl⟩
  have HE := Lib.hid ((ref_mul_eq p q).trans hr)
  rw [hr]
  clear hr
  obtain ⟨K, hK⟩ : ∃ K, K = k + 1 := ⟨_, rfl⟩
  have HP := Lib.hid (And.intro hp (And.intro hq (And.intro hK (show K ≤ 20001 by omega))))
  clear hp hq hK hk
  go_enter Try.func45, Try.ntmps45
  go_wp2_with fail
  obtain ⟨W0, hW0⟩ : ∃ W0, ((w.alloc (.cells #[.bool na, .slice an n1 c1, .slice ad n2 c2] 24)).alloc (.cells #[.bool nb, .slice bn m1 e1, .slice bd m2 e2] 24)).alloc (.cells #[.bool false, .slice none 0 0, .slice none 0 0] 24) = W0 := ⟨_, rfl⟩
  have hbw : Below w.heap.size w W0 := by rw [← hW0]; exact below_alloc3 _ _ _ _
  obtain ⟨hb0, hb1, hb2⟩ := alloc3_box w [.bool na, .slice an n1 c1, .slice ad n2 c2] [.bool nb, .slice bn m1 e1, .slice bd m2 e2] [.bool false, .slice none 0 0, .slice none 0 0] 24
  simp only [hW0] at hb0 hb1 hb2
  rw [hW0]
  clear hW0
  have hk1 : (Kd.box K p).holds W0 (.pointer (some ⟨w.heap.size, 0, none⟩)) := by rw [HP.out.2.2.1]; exact box_any hb0 (HP.out.1.below hbw)
  have hk2 : (Kd.box K q).holds W0 (.pointer (some ⟨w.heap.size + 1, 0, none⟩)) := by rw [HP.out.2.2.1]; exact box_any hb1 (HP.out.2.1.below hbw)
  have HX := Lib.hid (And.intro hbw (And.intro hb0 (And.intro hb1 (And.intro hb2 (And.intro hk1 hk2)))))
  clear hbw hb0 hb1 hb2 hk1 hk2
  refine region_flow_tail (Fk (mulA K p q)) (by rfl) (fun t w w' v hb h => Kd.below hb h) 25 4 [] (by rfl) (by kernel_rfl) (by kernel_rfl) (by kernel_rfl) (by kernel_rfl) (fun t ht => by cases ht) [2, 3] (by kernel_rfl) ?h0 (fun t v h => Kd.draw _ _ _ h) ?steps ?fin
  case h0 =>
    intro t ht
    simp only [List.mem_cons, List.not_mem_nil, or_false] at ht
    rcases ht with rfl | rfl
    · exact HX.out.2.2.2.2.1
    · exact HX.out.2.2.2.2.2
  case steps =>
    have hk' : K ≤ 80000 := Nat.le_trans HP.out.2.2.2 (by omega)
    exact ⟨flowN_of (fl_load guard_none rfl rfl) (by decide), flowN_of (fl_refCanon guard_none (.inl rfl) rfl hk') (by decide), flowN_of (fl_load guard_none rfl rfl) (by decide), flowN_of (fl_refCanon guard_none (.inl rfl) rfl hk') (by decide), trivial⟩
  intro a w2 hb2 hsz hdf hfacts hout _
  have f6 : (Kd.ratC K p).holds w2 (a.tmps.getD 6 undef) := hfacts 1 6 (by decide) rfl
  have f8 : (Kd.ratC K q).holds w2 (a.tmps.getD 8 undef) := hfacts 3 8 (by decide) rfl
  have e2' : a.tmps.getD 2 undef = .pointer (some ⟨w.heap.size, 0, none⟩) := hout 2 (free_of (by kernel_rfl))
  have e3' : a.tmps.getD 3 undef = .pointer (some ⟨w.heap.size + 1, 0, none⟩) := hout 3 (free_of (by kernel_rfl))
  have e4' : a.tmps.getD 4 undef = .pointer (some ⟨w.heap.size + 1 + 1, 0, none⟩) := hout 4 (free_of (by kernel_rfl))
  have hsz' : a.tmps.size = 25 := hsz
  have hdf' : a.defers = [] := hdf
  change runFrom _ _ _ 2 4 a w2
  refine two_stores (t := 2) (t' := 3) (u := 6) (u' := 8) rfl rfl e2' e3' (HX.out.2.1.below hb2) (HX.out.2.2.1.below hb2) (noLimb_rat _ _ _ _ _ _ _) (noLimb_rat _ _ _ _ _ _ _) (by omega) f6.1 f8.1 fun W hT => ?_
  obtain ⟨⟨x0, y0, z0, hB0, hC0⟩, ⟨x1, y1, z1, hB1, hC1⟩, hbel, hkept⟩ := hT
  have HQ : Hid (CanonR 25 w.heap.size (w.heap.size + 1) (w.heap.size + 1 + 1) K p q w a W) :=
    Lib.hid ⟨e2', e3', e4', hsz', hdf', boxC_of hB0 hC0 f6.2, boxC_of hB1 hC1 f8.2, hkept _ _ (HX.out.2.2.2.1.below hb2) (by omega) (by omega), hbel w (below_next' HX.out.1 hb2)⟩
  clear hb2 hsz hdf hfacts hout f6 f8 e2' e3' e4' hsz' hdf' hB0 hC0 hB1 hC1 hbel hkept HX
  go_wp2_with fail
  refine region_flow_tail (Fe (mulB K p q r)) (by rfl) (Fe.mono _) 25 16 [] HQ.out.size (by kernel_rfl) (by kernel_rfl) (by kernel_rfl) (by kernel_rfl) (fun t ht => by cases ht) [2, 3] (by kernel_rfl) ?g0 (Fe.draw _) ?gsteps ?gfin
  case g0 =>
    intro t ht
    simp only [List.mem_cons, List.not_mem_nil, or_false] at ht
    rcases ht with rfl | rfl
    · show (Ke.box K p).holds W _
      rw [HQ.out.e2]
      exact HQ.out.k2
    · show (Ke.box K q).holds W _
      rw [HQ.out.e3]
      exact HQ.out.k3
  case gsteps =>
    have hk1 : K ≤ 100000 := Nat.le_trans HP.out.2.2.2 (by omega)
    have hk2 : K + K ≤ 80000 := by have := HP.out.2.2.2; omega
    exact ⟨flowN_of ((e_field rfl).1 rfl) (by decide), flowN_of (e_loadB rfl rfl) (by decide), flowN_of ((e_field rfl).1 rfl) (by decide), flowN_of (e_loadB rfl rfl) (by decide), flowN_of (e_bneq rfl rfl rfl) (by decide), flowN_of ((e_field rfl).2.1 rfl) (by decide), flowN_of (e_loadN rfl rfl) (by decide), flowN_of ((e_field rfl).2.1 rfl) (by decide), flowN_of (e_loadN rfl rfl) (by decide), flowN_of (e_mul rfl rfl rfl hk1) (by decide), flowN_of ((e_field rfl).2.2 rfl) (by decide), flowN_of (e_loadN rfl rfl) (by decide), flowN_of ((e_field rfl).2.2 rfl) (by decide), flowN_of (e_loadN rfl rfl) (by decide), flowN_of (e_mul rfl rfl rfl hk1) (by decide), flowN_of (e_build rfl (.inl rfl) (.inl rfl) rfl HE.out hk2 hk2) (by decide), trivial⟩
  intro a3 w3 hb3 hsz3 hdf3 hfacts hout _
  have f24 : RatC w3 (a3.tmps.getD 24 undef) r := hfacts 15 24 (by decide) rfl
  have e4' : a3.tmps.getD 4 undef = .pointer (some ⟨w.heap.size + 1 + 1, 0, none⟩) := (hout 4 (free_of (by kernel_rfl))).trans HQ.out.e4
  have hB := HQ.out.res.below hb3
  change runFrom _ _ _ 1 16 a3 w3
  simp only [runFrom]
  refine e_store (t := 4) (u := 24) rfl e4' hB f24 fun an' ln' cn' ad' ld' cd' hR => ?_
  obtain ⟨⟨x0, x1, x2⟩, _⟩ := (hB.store3 (.bool (decide (r.num < 0))) (.slice an' ln' cn') (.slice ad' ld' cd')).three
  have hdd : a3.defers = [] := by rw [hdf3]; exact HQ.out.defers
  have e4'' : a3.tmps[4]?.getD undef = .pointer (some ⟨w.heap.size + 1 + 1, 0, none⟩) := by rw [← Array.getD_eq_getD_getElem?]; exact e4'
  have HR := Lib.hid (ratC_end (below_next' HQ.out.bel hb3) hB hR)
  clear hfacts hout hb3 hB hR f24
  go_wp2_with fail
  exact bodyPost_ret (v := .agg #[.bool (decide (r.num < 0)), .slice an' ln' cn', .slice ad' ld' cd']) (by simp [results, Try.results45, go_sem, e4'', x0, x1, x2]) hdd ⟨_, rfl, HR.out.1, HR.out.2⟩

theorem refMul_a {w : World} {x y : Value} {k : Nat} {p q : Rat} (hx : RatA w x k p) (hy : RatA w y k q) (hk : k ≤ 20000) : Calls Try.prog 45 #[x, y] w (RatP (p * q) w) := by
  obtain ⟨_, _, _, _, _, _, _, rfl, h1⟩ := hx.v
  obtain ⟨_, _, _, _, _, _, _, rfl, h2⟩ := hy.v
  exact refMul_any _ _ _ _ _ _ _ _ _ _ _ _ _ _ k p q w h1 h2 hk

end Go.Proofs.Ytdpiclmjdcjajaa

/-
  The reference's walks of Add, Sub and Cmp.
-/
namespace Go.Proofs.Ytdpiclmjdcjajaa
open Go.RowKit Num

theorem ref_add_same {p q : Rat} (h : decide (p.num < 0) = decide (q.num < 0)) : rat (decide (p.num < 0)) (p.num.natAbs * q.den + q.num.natAbs * p.den) (p.den * q.den) = p + q := by
  rw [← rat_add_same _ p.den_pos q.den_pos, rat_self, h, rat_self]
theorem ref_add_more {p q : Rat} (h : decide (p.num < 0) ≠ decide (q.num < 0)) (hle : q.num.natAbs * p.den ≤ p.num.natAbs * q.den) : rat (decide (p.num < 0)) (p.num.natAbs * q.den - q.num.natAbs * p.den) (p.den * q.den) = p + q := by
  rw [← rat_add_more h p.den_pos q.den_pos hle, rat_self, rat_self]
theorem ref_add_less {p q : Rat} (h : decide (p.num < 0) ≠ decide (q.num < 0)) (hle : p.num.natAbs * q.den ≤ q.num.natAbs * p.den) : rat (decide (q.num < 0)) (q.num.natAbs * p.den - p.num.natAbs * q.den) (p.den * q.den) = p + q := by
  rw [← rat_add_less h p.den_pos q.den_pos hle, rat_self, rat_self]

theorem CanonR.next {n g0 g1 g2 K : Nat} {p q : Rat} {w W W' : World} {a a' : Act} (h : CanonR n g0 g1 g2 K p q w a W) (hb : Below W.heap.size W W') (hs : a'.tmps.size = a.tmps.size) (hd : a'.defers = a.defers)
    (h2 : a'.tmps.getD 2 undef = a.tmps.getD 2 undef) (h3 : a'.tmps.getD 3 undef = a.tmps.getD 3 undef) (h4 : a'.tmps.getD 4 undef = a.tmps.getD 4 undef) : CanonR n g0 g1 g2 K p q w a' W' :=
  ⟨h2.trans h.e2, h3.trans h.e3, h4.trans h.e4, hs.trans h.size, hd.trans h.defers, Kd.below hb h.k2, Kd.below hb h.k3, h.res.below hb, below_next' h.bel hb⟩

section
variable {κ : Tmp → Ke} {G : Nat → Option Tmp} {d t : Tmp} {ty : TypeId} {pos : String} {es : Array Edge}
theorem e_geq0 {n : Int} {b : Bool} (ht : κ t = .con (.int .i64 n)) (hd : κ d = .con (.bool b)) (hb : decide (0 ≤ n) = b) : FlowStep Try.prog (Fe κ) G ⟨some d, .binOp .geq 3 (.tmp t) (.const (.int .i64 0)) 3, ty, pos, es, none⟩ := by
  refine e_step rfl fun a w Q hf => ?_
  have h := hf t (by simp [Op.operands])
  rw [ht] at h
  have h' : a.tmps.getD t undef = .int .i64 n := h
  have hr : Sem.run Try.prog (execOp a.eval ⟨some d, .binOp .geq 3 (.tmp t) (.const (.int .i64 0)) 3, ty, pos, es, none⟩) w = .ok (.value (.bool (decide (0 ≤ n)))) w := by go_simp
  unfold Oper.wp
  rw [hr, Oper.upon_value, hb]
  exact ⟨_, rfl, Below.refl _ _, fun d' hd' => by cases hd'; rw [hd]; rfl⟩
end

def addA (K : Nat) (p q : Rat) : Tmp → Kd := fun t => ([.any, .any, .box K p, .box K q, .any, .any, .any, .any, .rat K p, .ratC K p, .rat K q, .ratC K q] : List Kd).getD t .any

def addB (K : Nat) (p q r : Rat) : Tmp → Ke := fun t => ([.any, .any, .box K p, .box K q, .any, .nt (K + K) (p.num.natAbs * q.den), .nt (K + K) (q.num.natAbs * p.den), .nt (K + K) (p.den * q.den), .any, .any, .any, .any, .adN K p.num.natAbs, .nt K p.num.natAbs, .adN K q.den, .nt K q.den, .nt (K + K) (p.num.natAbs * q.den), .adN K q.num.natAbs, .nt K q.num.natAbs, .adN K p.den, .nt K p.den, .nt (K + K) (q.num.natAbs * p.den), .adN K p.den, .nt K p.den, .adN K q.den, .nt K q.den, .nt (K + K) (p.den * q.den), .adB (decide (p.num < 0)), .con (.bool (decide (p.num < 0))), .adB (decide (q.num < 0)), .con (.bool (decide (q.num < 0))), .con (.bool ((decide (p.num < 0)) == (decide (q.num < 0)))), .adB (decide (p.num < 0)), .con (.bool (decide (p.num < 0))), .nt (K + K) (p.num.natAbs * q.den), .nt (K + K) (q.num.natAbs * p.den), .list (K + K + (K + K) + 1) ((p.num.natAbs * q.den) + (q.num.natAbs * p.den)), .nt (K + K) (p.den * q.den), .ratC r, .nt (K + K) (p.num.natAbs * q.den), .nt (K + K) (q.num.natAbs * p.den), .con (.int .i64 (cmpI (((p.num.natAbs * q.den) : Nat) : Int) (((q.num.natAbs * p.den) : Nat) : Int))), .con (.bool (decide (0 ≤ cmpI (((p.num.natAbs * q.den) : Nat) : Int) (((q.num.natAbs * p.den) : Nat) : Int)))), .adB (decide (p.num < 0)), .con (.bool (decide (p.num < 0))), .nt (K + K) (p.num.natAbs * q.den), .nt (K + K) (q.num.natAbs * p.den), .nt (K + K) ((p.num.natAbs * q.den) - (q.num.natAbs * p.den)), .nt (K + K) (p.den * q.den), .ratC r, .adB (decide (q.num < 0)), .con (.bool (decide (q.num < 0))), .nt (K + K) (q.num.natAbs * p.den), .nt (K + K) (p.num.natAbs * q.den), .nt (K + K) ((q.num.natAbs * p.den) - (p.num.natAbs * q.den)), .nt (K + K) (p.den * q.den), .ratC r] : List Ke).getD t .any

set_option maxRecDepth 100000 in
set_option maxHeartbeats 4000000 in
theorem refAdd_any (na nb : Bool) (an ad bn bd : Option Addr) (n1 c1 n2 c2 m1 e1 m2 e2 k : Nat) (p q : Rat) (w : World) (hp : RatV w na an n1 c1 ad n2 c2 k p) (hq : RatV w nb bn m1 e1 bd m2 e2 k q) (hk : k ≤ 15000) :
    Calls Try.prog 44 #[.agg #[.bool na, .slice an n1 c1, .slice ad n2 c2], .agg #[.bool nb, .slice bn m1 e1, .slice bd m2 e2]] w (RatP (p + q) w) := by
  obtain ⟨r, hr⟩ : ∃ r, p + q = r := ⟨_, rfl⟩
  have HE := Lib.hid hr
  rw [hr]
  clear hr
  obtain ⟨K, hK⟩ : ∃ K, K = k + 1 := ⟨_, rfl⟩
  have HP := Lib.hid (And.intro hp (And.intro hq (And.intro hK (show K ≤ 15001 by omega))))
  clear hp hq hK hk
  go_enter Try.func44, Try.ntmps44
  go_wp2_with fail
  obtain ⟨W0, hW0⟩ : ∃ W0, ((w.alloc (.cells #[.bool na, .slice an n1 c1, .slice ad n2 c2] 24)).alloc (.cells #[.bool nb, .slice bn m1 e1, .slice bd m2 e2] 24)).alloc (.cells #[.bool false, .slice none 0 0, .slice none 0 0] 24) = W0 := ⟨_, rfl⟩
  have hbw : Below w.heap.size w W0 := by rw [← hW0]; exact below_alloc3 _ _ _ _
  obtain ⟨hb0, hb1, hb2⟩ := alloc3_box w [.bool na, .slice an n1 c1, .slice ad n2 c2] [.bool nb, .slice bn m1 e1, .slice bd m2 e2] [.bool false, .slice none 0 0, .slice none 0 0] 24
  simp only [hW0] at hb0 hb1 hb2
  rw [hW0]
  clear hW0
  have hk1 : (Kd.box K p).holds W0 (.pointer (some ⟨w.heap.size, 0, none⟩)) := by rw [HP.out.2.2.1]; exact box_any hb0 (HP.out.1.below hbw)
  have hk2 : (Kd.box K q).holds W0 (.pointer (some ⟨w.heap.size + 1, 0, none⟩)) := by rw [HP.out.2.2.1]; exact box_any hb1 (HP.out.2.1.below hbw)
  have HX := Lib.hid (And.intro hbw (And.intro hb0 (And.intro hb1 (And.intro hb2 (And.intro hk1 hk2)))))
  clear hbw hb0 hb1 hb2 hk1 hk2
  have hk3 : K + K ≤ 100000 := by have := HP.out.2.2.2; omega
  have hk6 : K + K + (K + K) + 1 ≤ 80000 := by have := HP.out.2.2.2; omega
  have hk1 : K ≤ 100000 := Nat.le_trans HP.out.2.2.2 (by omega)
  have hk4 : K + K ≤ 80000 := by have := HP.out.2.2.2; omega
  refine region_flow_tail (Fk (addA K p q)) (by rfl) (fun t w w' v hb h => Kd.below hb h) 57 4 [] (by rfl) (by kernel_rfl) (by kernel_rfl) (by kernel_rfl) (by kernel_rfl) (fun t ht => by cases ht) [2, 3] (by kernel_rfl) ?h0 (fun t v h => Kd.draw _ _ _ h) ?steps ?fin
  case h0 =>
    intro t ht
    simp only [List.mem_cons, List.not_mem_nil, or_false] at ht
    rcases ht with rfl | rfl
    · exact HX.out.2.2.2.2.1
    · exact HX.out.2.2.2.2.2
  case steps =>
    have hk' : K ≤ 80000 := Nat.le_trans HP.out.2.2.2 (by omega)
    exact ⟨flowN_of (fl_load guard_none rfl rfl) (by decide), flowN_of (fl_refCanon guard_none (.inl rfl) rfl hk') (by decide), flowN_of (fl_load guard_none rfl rfl) (by decide), flowN_of (fl_refCanon guard_none (.inl rfl) rfl hk') (by decide), trivial⟩
  intro a w2 hb2 hsz hdf hfacts hout _
  have f6 : (Kd.ratC K p).holds w2 (a.tmps.getD 9 undef) := hfacts 1 9 (by decide) rfl
  have f8 : (Kd.ratC K q).holds w2 (a.tmps.getD 11 undef) := hfacts 3 11 (by decide) rfl
  have e2' : a.tmps.getD 2 undef = .pointer (some ⟨w.heap.size, 0, none⟩) := hout 2 (free_of (by kernel_rfl))
  have e3' : a.tmps.getD 3 undef = .pointer (some ⟨w.heap.size + 1, 0, none⟩) := hout 3 (free_of (by kernel_rfl))
  have e4' : a.tmps.getD 4 undef = .pointer (some ⟨w.heap.size + 1 + 1, 0, none⟩) := hout 4 (free_of (by kernel_rfl))
  have hsz' : a.tmps.size = 57 := hsz
  have hdf' : a.defers = [] := hdf
  change runFrom _ _ _ 2 4 a w2
  refine two_stores (t := 2) (t' := 3) (u := 9) (u' := 11) rfl rfl e2' e3' (HX.out.2.1.below hb2) (HX.out.2.2.1.below hb2) (noLimb_rat _ _ _ _ _ _ _) (noLimb_rat _ _ _ _ _ _ _) (by omega) f6.1 f8.1 fun W hT => ?_
  obtain ⟨⟨x0, y0, z0, hB0, hC0⟩, ⟨x1, y1, z1, hB1, hC1⟩, hbel, hkept⟩ := hT
  have HQ : Hid (CanonR 57 w.heap.size (w.heap.size + 1) (w.heap.size + 1 + 1) K p q w a W) :=
    Lib.hid ⟨e2', e3', e4', hsz', hdf', boxC_of hB0 hC0 f6.2, boxC_of hB1 hC1 f8.2, hkept _ _ (HX.out.2.2.2.1.below hb2) (by omega) (by omega), hbel w (below_next' HX.out.1 hb2)⟩
  clear hb2 hsz hdf hfacts hout f6 f8 e2' e3' e4' hsz' hdf' hB0 hC0 hB1 hC1 hbel hkept HX
  go_wp2_with fail
  have HQ2 := Lib.hid (And.intro HQ.out trivial)
  refine region_flow (Fe (addB K p q r)) (by rfl) (Fe.mono _) 57 HQ2.out.1.size (by kernel_rfl) (by kernel_rfl) [2, 3] (by kernel_rfl) ?g2 (Fe.draw _) ?s2 ?f2
  case g2 =>
    intro t ht
    simp only [List.mem_cons, List.not_mem_nil, or_false] at ht
    rcases ht with rfl | rfl
    · show (Ke.box K p).holds W _; rw [HQ2.out.1.e2]; exact HQ2.out.1.k2
    · show (Ke.box K q).holds W _; rw [HQ2.out.1.e3]; exact HQ2.out.1.k3
  case s2 =>
    exact ⟨(e_field rfl).2.1 rfl, e_loadN rfl rfl, (e_field rfl).2.2 rfl, e_loadN rfl rfl, e_mul rfl rfl rfl hk1, (e_field rfl).2.1 rfl, e_loadN rfl rfl, (e_field rfl).2.2 rfl, e_loadN rfl rfl, e_mul rfl rfl rfl hk1, e_assign rfl, e_assign rfl, trivial⟩
  intro a2 W2 hb hs hd hfacts hout
  have f5 : (Ke.nt (K + K) (p.num.natAbs * q.den)).holds W2 (a2.tmps.getD 5 undef) := hfacts 10 5 rfl
  have f6 : (Ke.nt (K + K) (q.num.natAbs * p.den)).holds W2 (a2.tmps.getD 6 undef) := hfacts 11 6 rfl
  have hc := HQ2.out.1.next hb hs hd (hout 2 (free_of (by kernel_rfl))) (hout 3 (free_of (by kernel_rfl))) (hout 4 (free_of (by kernel_rfl)))
  have H2 := Lib.hid (And.intro hc (And.intro f5 f6))
  clear hfacts hout hs hd hb f5 f6 hc
  go_upto_region 3 with (fail)
  refine region_flow_text (Fe (addB K p q r)) (Fe.mono _) 57 H2.out.1.size (by kernel_rfl) (by kernel_rfl) [2, 3] (by kernel_rfl) ?g3 ?s3 ?f3
  case g3 =>
    intro t ht
    simp only [List.mem_cons, List.not_mem_nil, or_false] at ht
    rcases ht with rfl | rfl
    · show (Ke.box K p).holds W2 _; rw [H2.out.1.e2]; exact H2.out.1.k2
    · show (Ke.box K q).holds W2 _; rw [H2.out.1.e3]; exact H2.out.1.k3
  case s3 =>
    exact ⟨(e_field rfl).2.2 rfl, e_loadN rfl rfl, (e_field rfl).2.2 rfl, e_loadN rfl rfl, e_mul rfl rfl rfl hk1, e_assign rfl, trivial⟩
  intro a3 W3 hb hs hd hfacts hout
  have f5 : (Ke.nt (K + K) (p.num.natAbs * q.den)).holds W3 (a3.tmps.getD 5 undef) := by rw [hout 5 (free_of (by kernel_rfl))]; exact (Ke.nt (K + K) (p.num.natAbs * q.den)).below hb H2.out.2.1
  have f6 : (Ke.nt (K + K) (q.num.natAbs * p.den)).holds W3 (a3.tmps.getD 6 undef) := by rw [hout 6 (free_of (by kernel_rfl))]; exact (Ke.nt (K + K) (q.num.natAbs * p.den)).below hb H2.out.2.2
  have f7 : (Ke.nt (K + K) (p.den * q.den)).holds W3 (a3.tmps.getD 7 undef) := hfacts 5 7 rfl
  have hc := H2.out.1.next hb hs hd (hout 2 (free_of (by kernel_rfl))) (hout 3 (free_of (by kernel_rfl))) (hout 4 (free_of (by kernel_rfl)))
  have H3 := Lib.hid (And.intro hc (And.intro f5 (And.intro f6 f7)))
  clear hfacts hout hs hd hb f5 f6 f7 hc
  go_upto_region 4 with (fail)
  refine region_flow_text (Fe (addB K p q r)) (Fe.mono _) 57 H3.out.1.size (by kernel_rfl) (by kernel_rfl) [2, 3] (by kernel_rfl) ?g4 ?s4 ?f4
  case g4 =>
    intro t ht
    simp only [List.mem_cons, List.not_mem_nil, or_false] at ht
    rcases ht with rfl | rfl
    · show (Ke.box K p).holds W3 _; rw [H3.out.1.e2]; exact H3.out.1.k2
    · show (Ke.box K q).holds W3 _; rw [H3.out.1.e3]; exact H3.out.1.k3
  case s4 =>
    exact ⟨(e_field rfl).1 rfl, e_loadB rfl rfl, (e_field rfl).1 rfl, e_loadB rfl rfl, e_beql rfl rfl rfl, trivial⟩
  intro a4 W4 hb hs hd hfacts hout
  have e31 : a4.tmps.getD 31 undef = .bool ((decide (p.num < 0)) == (decide (q.num < 0))) := hfacts 4 31 rfl
  have f5 : (Ke.nt (K + K) (p.num.natAbs * q.den)).holds W4 (a4.tmps.getD 5 undef) := by rw [hout 5 (free_of (by kernel_rfl))]; exact (Ke.nt (K + K) (p.num.natAbs * q.den)).below hb H3.out.2.1
  have f6 : (Ke.nt (K + K) (q.num.natAbs * p.den)).holds W4 (a4.tmps.getD 6 undef) := by rw [hout 6 (free_of (by kernel_rfl))]; exact (Ke.nt (K + K) (q.num.natAbs * p.den)).below hb H3.out.2.2.1
  have f7 : (Ke.nt (K + K) (p.den * q.den)).holds W4 (a4.tmps.getD 7 undef) := by rw [hout 7 (free_of (by kernel_rfl))]; exact (Ke.nt (K + K) (p.den * q.den)).below hb H3.out.2.2.2
  have hc := H3.out.1.next hb hs hd (hout 2 (free_of (by kernel_rfl))) (hout 3 (free_of (by kernel_rfl))) (hout 4 (free_of (by kernel_rfl)))
  have H4 := Lib.hid (And.intro hc (And.intro f5 (And.intro f6 f7)))
  clear hfacts hout hs hd hb f5 f6 f7 hc
  by_cases hst : (decide (p.num < 0)) = (decide (q.num < 0))
  · have e0 : a4.tmps.getD 31 undef = .bool true := by rw [e31, hst]; simp
    have HE5 := Lib.hid ((ref_add_same hst).trans HE.out)
    clear e31 hst
    go_wp2_with fail
    refine wp_cond_true e0 ?_
    go_wp2_with fail
    refine region_flow_tail (Fe (addB K p q r)) (by rfl) (Fe.mono _) 57 7 [] H4.out.1.size (by kernel_rfl) (by kernel_rfl) (by kernel_rfl) (by kernel_rfl) (fun t ht => by cases ht) [2, 5, 6, 7] (by kernel_rfl) ?g5 (Fe.draw _) ?s5 ?f5
    case g5 =>
      intro t ht
      simp only [List.mem_cons, List.not_mem_nil, or_false] at ht
      rcases ht with rfl | rfl | rfl | rfl
      · show (Ke.box K p).holds W4 _; rw [H4.out.1.e2]; exact H4.out.1.k2
      · exact H4.out.2.1
      · exact H4.out.2.2.1
      · exact H4.out.2.2.2
    case s5 =>
      exact ⟨flowN_of ((e_field rfl).1 rfl) (by decide), flowN_of (e_loadB rfl rfl) (by decide), flowN_of (e_move rfl) (by decide), flowN_of (e_move rfl) (by decide), flowN_of (e_add rfl rfl rfl hk3) (by decide), flowN_of (e_move rfl) (by decide), flowN_of (e_build rfl (.inr rfl) (.inl rfl) rfl HE5.out hk6 hk4) (by decide), trivial⟩
    intro a9 w9 hb9 hs9 hd9 hfacts hout _
    have f24 : RatC w9 (a9.tmps.getD 38 undef) r := hfacts 6 38 (by decide) rfl
    have e4' : a9.tmps.getD 4 undef = .pointer (some ⟨w.heap.size + 1 + 1, 0, none⟩) := (hout 4 (free_of (by kernel_rfl))).trans H4.out.1.e4
    have hB := H4.out.1.res.below hb9
    change runFrom _ _ _ 1 7 a9 w9
    simp only [runFrom]
    refine e_store (t := 4) (u := 38) rfl e4' hB f24 fun an' ln' cn' ad' ld' cd' hR => ?_
    obtain ⟨⟨x0, x1, x2⟩, _⟩ := (hB.store3 (.bool (decide (r.num < 0))) (.slice an' ln' cn') (.slice ad' ld' cd')).three
    have hdd : a9.defers = [] := by rw [hd9]; exact H4.out.1.defers
    have e4'' : a9.tmps[4]?.getD undef = .pointer (some ⟨w.heap.size + 1 + 1, 0, none⟩) := by rw [← Array.getD_eq_getD_getElem?]; exact e4'
    have HR := Lib.hid (ratC_end (below_next' H4.out.1.bel hb9) hB hR)
    clear hfacts hout hb9 hB hR f24
    go_wp2_with fail
    exact bodyPost_ret (v := .agg #[.bool (decide (r.num < 0)), .slice an' ln' cn', .slice ad' ld' cd']) (by simp [results, Try.results44, go_sem, e4'', x0, x1, x2]) hdd ⟨_, rfl, HR.out.1, HR.out.2⟩
  · have e0 : a4.tmps.getD 31 undef = .bool false := by rw [e31]; congr 1; rw [beq_eq_false_iff_ne]; exact hst
    have HST := Lib.hid hst
    clear e31 hst
    go_wp2_with fail
    refine wp_cond_false e0 (wp_skip ?_)
    go_upto_region 6 with (fail)
    refine region_flow_text (Fe (addB K p q r)) (Fe.mono _) 57 H4.out.1.size (by kernel_rfl) (by kernel_rfl) [5, 6] (by kernel_rfl) ?g6 ?s6 ?f6
    case g6 =>
      intro t ht
      simp only [List.mem_cons, List.not_mem_nil, or_false] at ht
      rcases ht with rfl | rfl
      · exact H4.out.2.1
      · exact H4.out.2.2.1
    case s6 =>
      exact ⟨e_move rfl, e_move rfl, e_cmp rfl rfl rfl, e_geq0 rfl rfl rfl, trivial⟩
    intro a6 W6 hb hs hd hfacts hout
    have e42 : a6.tmps.getD 42 undef = .bool (decide (0 ≤ cmpI (((p.num.natAbs * q.den) : Nat) : Int) (((q.num.natAbs * p.den) : Nat) : Int))) := hfacts 3 42 rfl
    have f5 : (Ke.nt (K + K) (p.num.natAbs * q.den)).holds W6 (a6.tmps.getD 5 undef) := by rw [hout 5 (free_of (by kernel_rfl))]; exact (Ke.nt (K + K) (p.num.natAbs * q.den)).below hb H4.out.2.1
    have f6 : (Ke.nt (K + K) (q.num.natAbs * p.den)).holds W6 (a6.tmps.getD 6 undef) := by rw [hout 6 (free_of (by kernel_rfl))]; exact (Ke.nt (K + K) (q.num.natAbs * p.den)).below hb H4.out.2.2.1
    have f7 : (Ke.nt (K + K) (p.den * q.den)).holds W6 (a6.tmps.getD 7 undef) := by rw [hout 7 (free_of (by kernel_rfl))]; exact (Ke.nt (K + K) (p.den * q.den)).below hb H4.out.2.2.2
    have hc := H4.out.1.next hb hs hd (hout 2 (free_of (by kernel_rfl))) (hout 3 (free_of (by kernel_rfl))) (hout 4 (free_of (by kernel_rfl)))
    have H6 := Lib.hid (And.intro hc (And.intro f5 (And.intro f6 f7)))
    clear hfacts hout hs hd hb f5 f6 f7 hc
    by_cases hle : (q.num.natAbs * p.den) ≤ (p.num.natAbs * q.den)
    · have e1 : a6.tmps.getD 42 undef = .bool true := by rw [e42, decide_eq_true (ge_case hle)]
      have HE7 := Lib.hid ((ref_add_more HST.out hle).trans HE.out)
      have HLE := Lib.hid hle
      clear e42 hle e0
      go_wp2_with fail
      refine wp_cond_true e1 ?_
      go_wp2_with fail
      refine region_flow_tail (Fe (addB K p q r)) (by rfl) (Fe.mono _) 57 7 [] H6.out.1.size (by kernel_rfl) (by kernel_rfl) (by kernel_rfl) (by kernel_rfl) (fun t ht => by cases ht) [2, 5, 6, 7] (by kernel_rfl) ?g7 (Fe.draw _) ?s7 ?f7
      case g7 =>
        intro t ht
        simp only [List.mem_cons, List.not_mem_nil, or_false] at ht
        rcases ht with rfl | rfl | rfl | rfl
        · show (Ke.box K p).holds W6 _; rw [H6.out.1.e2]; exact H6.out.1.k2
        · exact H6.out.2.1
        · exact H6.out.2.2.1
        · exact H6.out.2.2.2
      case s7 =>
        exact ⟨flowN_of ((e_field rfl).1 rfl) (by decide), flowN_of (e_loadB rfl rfl) (by decide), flowN_of (e_move rfl) (by decide), flowN_of (e_move rfl) (by decide), flowN_of (e_sub rfl rfl rfl HLE.out hk3) (by decide), flowN_of (e_move rfl) (by decide), flowN_of (e_build rfl (.inl rfl) (.inl rfl) rfl HE7.out hk4 hk4) (by decide), trivial⟩
      intro a9 w9 hb9 hs9 hd9 hfacts hout _
      have f24 : RatC w9 (a9.tmps.getD 49 undef) r := hfacts 6 49 (by decide) rfl
      have e4' : a9.tmps.getD 4 undef = .pointer (some ⟨w.heap.size + 1 + 1, 0, none⟩) := (hout 4 (free_of (by kernel_rfl))).trans H6.out.1.e4
      have hB := H6.out.1.res.below hb9
      change runFrom _ _ _ 1 7 a9 w9
      simp only [runFrom]
      refine e_store (t := 4) (u := 49) rfl e4' hB f24 fun an' ln' cn' ad' ld' cd' hR => ?_
      obtain ⟨⟨x0, x1, x2⟩, _⟩ := (hB.store3 (.bool (decide (r.num < 0))) (.slice an' ln' cn') (.slice ad' ld' cd')).three
      have hdd : a9.defers = [] := by rw [hd9]; exact H6.out.1.defers
      have e4'' : a9.tmps[4]?.getD undef = .pointer (some ⟨w.heap.size + 1 + 1, 0, none⟩) := by rw [← Array.getD_eq_getD_getElem?]; exact e4'
      have HR := Lib.hid (ratC_end (below_next' H6.out.1.bel hb9) hB hR)
      clear hfacts hout hb9 hB hR f24
      go_wp2_with fail
      exact bodyPost_ret (v := .agg #[.bool (decide (r.num < 0)), .slice an' ln' cn', .slice ad' ld' cd']) (by simp [results, Try.results44, go_sem, e4'', x0, x1, x2]) hdd ⟨_, rfl, HR.out.1, HR.out.2⟩
    · have hle' : (p.num.natAbs * q.den) ≤ (q.num.natAbs * p.den) := by omega
      have e1 : a6.tmps.getD 42 undef = .bool false := by rw [e42, cmpI_lt (by omega)]; rfl
      have HE8 := Lib.hid ((ref_add_less HST.out hle').trans HE.out)
      have HLE := Lib.hid hle'
      clear e42 hle hle' e0
      go_wp2_with fail
      refine wp_cond_false e1 (wp_skip ?_)
      go_wp2_with fail
      refine region_flow_tail (Fe (addB K p q r)) (by rfl) (Fe.mono _) 57 7 [] H6.out.1.size (by kernel_rfl) (by kernel_rfl) (by kernel_rfl) (by kernel_rfl) (fun t ht => by cases ht) [3, 5, 6, 7] (by kernel_rfl) ?g8 (Fe.draw _) ?s8 ?f8
      case g8 =>
        intro t ht
        simp only [List.mem_cons, List.not_mem_nil, or_false] at ht
        rcases ht with rfl | rfl | rfl | rfl
        · show (Ke.box K q).holds W6 _; rw [H6.out.1.e3]; exact H6.out.1.k3
        · exact H6.out.2.1
        · exact H6.out.2.2.1
        · exact H6.out.2.2.2
      case s8 =>
        exact ⟨flowN_of ((e_field rfl).1 rfl) (by decide), flowN_of (e_loadB rfl rfl) (by decide), flowN_of (e_move rfl) (by decide), flowN_of (e_move rfl) (by decide), flowN_of (e_sub rfl rfl rfl HLE.out hk3) (by decide), flowN_of (e_move rfl) (by decide), flowN_of (e_build rfl (.inl rfl) (.inl rfl) rfl HE8.out hk4 hk4) (by decide), trivial⟩
      intro a9 w9 hb9 hs9 hd9 hfacts hout _
      have f24 : RatC w9 (a9.tmps.getD 56 undef) r := hfacts 6 56 (by decide) rfl
      have e4' : a9.tmps.getD 4 undef = .pointer (some ⟨w.heap.size + 1 + 1, 0, none⟩) := (hout 4 (free_of (by kernel_rfl))).trans H6.out.1.e4
      have hB := H6.out.1.res.below hb9
      change runFrom _ _ _ 1 7 a9 w9
      simp only [runFrom]
      refine e_store (t := 4) (u := 56) rfl e4' hB f24 fun an' ln' cn' ad' ld' cd' hR => ?_
      obtain ⟨⟨x0, x1, x2⟩, _⟩ := (hB.store3 (.bool (decide (r.num < 0))) (.slice an' ln' cn') (.slice ad' ld' cd')).three
      have hdd : a9.defers = [] := by rw [hd9]; exact H6.out.1.defers
      have e4'' : a9.tmps[4]?.getD undef = .pointer (some ⟨w.heap.size + 1 + 1, 0, none⟩) := by rw [← Array.getD_eq_getD_getElem?]; exact e4'
      have HR := Lib.hid (ratC_end (below_next' H6.out.1.bel hb9) hB hR)
      clear hfacts hout hb9 hB hR f24
      go_wp2_with fail
      exact bodyPost_ret (v := .agg #[.bool (decide (r.num < 0)), .slice an' ln' cn', .slice ad' ld' cd']) (by simp [results, Try.results44, go_sem, e4'', x0, x1, x2]) hdd ⟨_, rfl, HR.out.1, HR.out.2⟩

theorem refAdd_a {w : World} {x y : Value} {k : Nat} {p q : Rat} (hx : RatA w x k p) (hy : RatA w y k q) (hk : k ≤ 15000) : Calls Try.prog 44 #[x, y] w (RatP (p + q) w) := by
  obtain ⟨_, _, _, _, _, _, _, rfl, h1⟩ := hx.v
  obtain ⟨_, _, _, _, _, _, _, rfl, h2⟩ := hy.v
  exact refAdd_any _ _ _ _ _ _ _ _ _ _ _ _ _ _ k p q w h1 h2 hk

end Go.Proofs.Ytdpiclmjdcjajaa

/-
  The reference's walks of Sub, Cmp and FromInt.
-/
namespace Go.Proofs.Ytdpiclmjdcjajaa
open Go.RowKit Num

section
variable {κ : Tmp → Kd} {G : Nat → Option Tmp} {d t u : Tmp} {ty : TypeId} {pos : String} {es : Array Edge} {g : Option (Nat × Bool)} {k1 k2 : Nat} {p q : Rat}
theorem fl_refAdd (hg : GuardYes (Fk κ) G g) (ht : (κ t).isRat k1 p) (hu : (κ u).isRat k2 q) (hd : κ d = .ratC (k1 + k2 + 1) (p + q)) (hk : k1 + k2 ≤ 15000) :
    FlowStep Try.prog (Fk κ) G ⟨some d, .call ⟨.value (.func 44), #[.tmp t, .tmp u], #[24, 24]⟩, ty, pos, es, g⟩ :=
  fl_call2 (fun a w => c2_36 a _ _ _ _ _ _ _ w) hg fun w x y hx hy => (refAdd_a (ht.a hx (Nat.le_add_right k1 k2)) (hu.a hy (Nat.le_add_left k2 k1)) hk).mono fun e w' ⟨v, he, hv, hb⟩ => ⟨v, he, by rw [hd]; exact ⟨hv, sz_add (ht.sz hx) (hu.sz hy)⟩, hb⟩
end

/-- What the slots hold in Sub. -/
def subA (K : Nat) (p q : Rat) : Tmp → Kd := fun t => ([.any, .any, .box K p, .box K q, .any, .rat K p, .rat K q, .ratC K (-q), .ratC (K + K + 1) (p + -q)] : List Kd).getD t .any

set_option maxRecDepth 100000 in
set_option maxHeartbeats 4000000 in
theorem refSub_any (na nb : Bool) (an ad bn bd : Option Addr) (n1 c1 n2 c2 m1 e1 m2 e2 k : Nat) (p q : Rat) (w : World) (hp : RatV w na an n1 c1 ad n2 c2 k p) (hq : RatV w nb bn m1 e1 bd m2 e2 k q) (hk : k ≤ 7000) :
    Calls Try.prog 81 #[.agg #[.bool na, .slice an n1 c1, .slice ad n2 c2], .agg #[.bool nb, .slice bn m1 e1, .slice bd m2 e2]] w (RatP (p - q) w) := by
  obtain ⟨r, hr⟩ : ∃ r, p - q = r := ⟨_, rfl⟩
  have HE := Lib.hid ((Rat.sub_eq_add_neg p q).symm.trans hr)
  rw [hr]
  clear hr
  obtain ⟨K, hK⟩ : ∃ K, K = k + 1 := ⟨_, rfl⟩
  have HP := Lib.hid (And.intro hp (And.intro hq (And.intro hK (show K ≤ 7001 by omega))))
  clear hp hq hK hk
  go_enter Try.func81, Try.ntmps81
  go_wp2_with fail
  obtain ⟨W0, hW0⟩ : ∃ W0, ((w.alloc (.cells #[.bool na, .slice an n1 c1, .slice ad n2 c2] 24)).alloc (.cells #[.bool nb, .slice bn m1 e1, .slice bd m2 e2] 24)).alloc (.cells #[.bool false, .slice none 0 0, .slice none 0 0] 24) = W0 := ⟨_, rfl⟩
  have hbw : Below w.heap.size w W0 := by rw [← hW0]; exact below_alloc3 _ _ _ _
  obtain ⟨hb0, hb1, hb2⟩ := alloc3_box w [.bool na, .slice an n1 c1, .slice ad n2 c2] [.bool nb, .slice bn m1 e1, .slice bd m2 e2] [.bool false, .slice none 0 0, .slice none 0 0] 24
  simp only [hW0] at hb0 hb1 hb2
  rw [hW0]
  clear hW0
  have hk1 : (Kd.box K p).holds W0 (.pointer (some ⟨w.heap.size, 0, none⟩)) := by rw [HP.out.2.2.1]; exact box_any hb0 (HP.out.1.below hbw)
  have hk2 : (Kd.box K q).holds W0 (.pointer (some ⟨w.heap.size + 1, 0, none⟩)) := by rw [HP.out.2.2.1]; exact box_any hb1 (HP.out.2.1.below hbw)
  have HX := Lib.hid (And.intro hbw (And.intro hb0 (And.intro hb1 (And.intro hb2 (And.intro hk1 hk2)))))
  clear hbw hb0 hb1 hb2 hk1 hk2
  refine region_flow_tail (Fk (subA K p q)) (by rfl) (fun t w w' v hb h => Kd.below hb h) 9 4 [] (by rfl) (by kernel_rfl) (by kernel_rfl) (by kernel_rfl) (by kernel_rfl) (fun t ht => by cases ht) [2, 3] (by kernel_rfl) ?h0 (fun t v h => Kd.draw _ _ _ h) ?steps ?fin
  case h0 =>
    intro t ht
    simp only [List.mem_cons, List.not_mem_nil, or_false] at ht
    rcases ht with rfl | rfl
    · exact HX.out.2.2.2.2.1
    · exact HX.out.2.2.2.2.2
  case steps =>
    have hk' : K ≤ 80000 := Nat.le_trans HP.out.2.2.2 (by omega)
    have hk2 : K + K ≤ 15000 := by have := HP.out.2.2.2; omega
    exact ⟨flowN_of (fl_load guard_none rfl rfl) (by decide), flowN_of (fl_load guard_none rfl rfl) (by decide), flowN_of (fl_refNeg guard_none (.inl rfl) rfl hk') (by decide), flowN_of (fl_refAdd guard_none (.inl rfl) (.inr rfl) rfl hk2) (by decide), trivial⟩
  intro a9 w9 hb9 hs9 hd9 hfacts hout _
  have f24 : RatC w9 (a9.tmps.getD 8 undef) r := by rw [← HE.out]; exact (show (Kd.ratC (K + K + 1) (p + -q)).holds w9 _ from hfacts 3 8 (by decide) rfl).1
  have e4' : a9.tmps.getD 4 undef = .pointer (some ⟨w.heap.size + 1 + 1, 0, none⟩) := hout 4 (free_of (by kernel_rfl))
  have hB := HX.out.2.2.2.1.below hb9
  change runFrom _ _ _ 1 4 a9 w9
  simp only [runFrom]
  refine e_store (t := 4) (u := 8) rfl e4' hB f24 fun an' ln' cn' ad' ld' cd' hR => ?_
  obtain ⟨⟨x0, x1, x2⟩, _⟩ := (hB.store3 (.bool (decide (r.num < 0))) (.slice an' ln' cn') (.slice ad' ld' cd')).three
  have hdd : a9.defers = [] := by rw [hd9]
  have e4'' : a9.tmps[4]?.getD undef = .pointer (some ⟨w.heap.size + 1 + 1, 0, none⟩) := by rw [← Array.getD_eq_getD_getElem?]; exact e4'
  have HR := Lib.hid (ratC_end (below_next' HX.out.1 hb9) hB hR)
  clear hfacts hout hb9 hB hR f24
  go_wp2_with fail
  exact bodyPost_ret (v := .agg #[.bool (decide (r.num < 0)), .slice an' ln' cn', .slice ad' ld' cd']) (by simp [results, Try.results81, go_sem, e4'', x0, x1, x2]) hdd ⟨_, rfl, HR.out.1, HR.out.2⟩

theorem refSub_a {w : World} {x y : Value} {k : Nat} {p q : Rat} (hx : RatA w x k p) (hy : RatA w y k q) (hk : k ≤ 7000) : Calls Try.prog 81 #[x, y] w (RatP (p - q) w) := by
  obtain ⟨_, _, _, _, _, _, _, rfl, h1⟩ := hx.v
  obtain ⟨_, _, _, _, _, _, _, rfl, h2⟩ := hy.v
  exact refSub_any _ _ _ _ _ _ _ _ _ _ _ _ _ _ k p q w h1 h2 hk

theorem refSign_a {w : World} {x : Value} {k : Nat} {p : Rat} (hx : RatA w x k p) (hk : k ≤ 80000) : Calls Try.prog 65 #[x] w (SignP p w) := by
  obtain ⟨_, _, _, _, _, _, _, rfl, h1⟩ := hx.v
  exact refSign_any _ _ _ _ _ _ _ k p w h1 hk
theorem sgn_diff (x y : Rat) : sgn (x - y) = cmpQ x y := by
  rw [sgn_cmp0]
  unfold cmpQ
  have h1 : x - y < 0 ↔ x < y := by
    rw [Rat.sub_eq_add_neg, ← Rat.add_lt_add_right (c := y), Rat.add_assoc, Rat.neg_add_cancel, Rat.add_zero, Rat.zero_add]
  have h2 : 0 < x - y ↔ y < x := by
    rw [Rat.sub_eq_add_neg, ← Rat.add_lt_add_right (c := y), Rat.add_assoc, Rat.neg_add_cancel, Rat.add_zero, Rat.zero_add]
  simp only [h1, h2]

section
variable {κ : Tmp → Kd} {G : Nat → Option Tmp} {d t u : Tmp} {ty : TypeId} {pos : String} {es : Array Edge} {g : Option (Nat × Bool)} {k1 k2 : Nat} {p q : Rat}
end

end Go.Proofs.Ytdpiclmjdcjajaa

/-
  The reference's walks of FromInt and Div.
-/
namespace Go.Proofs.Ytdpiclmjdcjajaa
open Go.RowKit Num

theorem refquo_neg {n : Int} (h : n < 0) : rat true n.natAbs 1 = quo n 1 := by
  unfold quo
  rw [decide_eq_true h]
  rfl
theorem refquo_pos {n : Int} (h : ¬ n < 0) : rat false n.natAbs 1 = quo n 1 := by
  unfold quo
  rw [decide_eq_false h]
  rfl
theorem wrap64 {x : Int} (h1 : 0 ≤ x) (h2 : x < 18446744073709551616) : IntKind.u64.wrap x = x := by
  simp [IntKind.wrap, IntKind.bits, IntKind.signed]; omega

set_option maxHeartbeats 2000000 in
theorem refFromInt_any (n : Int) (w : World) (a1 : -9223372036854775808 ≤ n) (a2 : n ≤ 9223372036854775807) : Calls Try.prog 48 #[.int .i64 n] w (RatP (quo n 1) w) := by
  obtain ⟨m, hm⟩ : ∃ m, n.natAbs = m := ⟨_, rfl⟩
  have hm64 : m < 18446744073709551616 := by omega
  have hmp : m < pw 3 := Nat.lt_trans hm64 (by decide)
  have hc := fun W => limbs_any m hm64 W
  obtain ⟨r, hr⟩ : ∃ r, quo n 1 = r := ⟨_, rfl⟩
  have hb0 := below_alloc1 w (.cells #[.bool false, .slice none 0 0, .slice none 0 0] 24)
  have hB := BoxV.new w w.heap.size 24 (Nat.le_refl _) [.bool false, .slice none 0 0, .slice none 0 0]
  have HA := Lib.hid (And.intro hc (And.intro hmp (And.intro hb0 hB)))
  clear hc hmp hb0 hB hm64
  by_cases hn : n < 0
  · have hq : rat true m 1 = r := by rw [← hm, ← hr]; exact refquo_neg hn
    have z1 : IntKind.i64.wrap (n + 1) = n + 1 := wrap_in (by omega) (by omega)
    have z2 : IntKind.i64.wrap (-(n + 1)) = -(n + 1) := wrap_in (by omega) (by omega)
    have z3 : IntKind.u64.wrap (-(n + 1)) = -(n + 1) := wrap64 (by omega) (by omega)
    have z4 : IntKind.u64.wrap (-(n + 1) + 1) = (m : Int) := by rw [wrap64 (by omega) (by omega)]; omega
    have hd : decide (n < 0) = true := decide_eq_true hn
    have HQ := Lib.hid hq
    rw [hr]
    clear hq hr hm a1 a2 hn
    go_enter Try.func48, Try.ntmps48
    go_wp2_with fail
    refine (HA.out.1 _).mono ?_
    rintro e w2 ⟨v, rfl, hv, hb⟩
    obtain ⟨va, vn, vc, rfl⟩ := hv.shape
    have H2 := Lib.hid (And.intro hv (And.intro (below_next' HA.out.2.2.1 hb) (HA.out.2.2.2.below hb)))
    clear hv hb z1 z2 z3 z4 hd
    have t2 := H2.out.2.2.block.2
    go_wp2_with fail
    have hb8 := below_alloc1 w2 (.cells #[.int .u32 1] 58)
    obtain ⟨L, hL, eL, nL⟩ := (H2.out.1.below hb8).list HA.out.2.1
    refine (ref_whole hL eL (g := w2.heap.size) (by rw [World.cell?_alloc_at _ _ _ _ rfl]; rfl) (by omega)).mono ?_
    rw [HQ.out]
    rintro e w4 ⟨v, rfl, hv, hb9⟩
    have hb10 := below_next hb8 hb9
    have hB5 := H2.out.2.2.below hb10
    have hbb := below_next' H2.out.2.1 hb10
    have HV := Lib.hid hv
    obtain ⟨zn, zl, zc, en, el, ec, rfl, _⟩ := hv
    obtain ⟨⟨x0, x1, x2⟩, j0, j1, j2⟩ := hB5.three
    have HF := Lib.hid (And.intro hbb hB5)
    clear hB5 hbb hb8 hb9 hb10 t2 hL eL nL
    go_wp2
    obtain ⟨e1, e2⟩ := ratC_end HF.out.1 HF.out.2 HV.out
    exact bodyPost_ret (v := .agg #[.bool (decide (r.num < 0)), .slice zn zl zc, .slice en el ec]) (by simp [results, Try.results48, go_sem, x0, x1, x2]) rfl ⟨_, rfl, e1, e2⟩
  · have hq : rat false m 1 = r := by rw [← hm, ← hr]; exact refquo_pos hn
    have z3 : IntKind.u64.wrap n = (m : Int) := by rw [wrap64 (by omega) (by omega)]; omega
    have hd : decide (n < 0) = false := decide_eq_false hn
    have HQ := Lib.hid hq
    rw [hr]
    clear hq hr hm a1 a2 hn
    go_enter Try.func48, Try.ntmps48
    go_wp2_with fail
    refine (HA.out.1 _).mono ?_
    rintro e w2 ⟨v, rfl, hv, hb⟩
    obtain ⟨va, vn, vc, rfl⟩ := hv.shape
    have H2 := Lib.hid (And.intro hv (And.intro (below_next' HA.out.2.2.1 hb) (HA.out.2.2.2.below hb)))
    clear hv hb z3 hd
    have t2 := H2.out.2.2.block.2
    go_wp2_with fail
    have hb8 := below_alloc1 w2 (.cells #[.int .u32 1] 58)
    obtain ⟨L, hL, eL, nL⟩ := (H2.out.1.below hb8).list HA.out.2.1
    refine (ref_whole hL eL (g := w2.heap.size) (by rw [World.cell?_alloc_at _ _ _ _ rfl]; rfl) (by omega)).mono ?_
    rw [HQ.out]
    rintro e w4 ⟨v, rfl, hv, hb9⟩
    have hb10 := below_next hb8 hb9
    have hB5 := H2.out.2.2.below hb10
    have hbb := below_next' H2.out.2.1 hb10
    have HV := Lib.hid hv
    obtain ⟨zn, zl, zc, en, el, ec, rfl, _⟩ := hv
    obtain ⟨⟨x0, x1, x2⟩, j0, j1, j2⟩ := hB5.three
    have HF := Lib.hid (And.intro hbb hB5)
    clear hB5 hbb hb8 hb9 hb10 t2 hL eL nL
    go_wp2
    obtain ⟨e1, e2⟩ := ratC_end HF.out.1 HF.out.2 HV.out
    exact bodyPost_ret (v := .agg #[.bool (decide (r.num < 0)), .slice zn zl zc, .slice en el ec]) (by simp [results, Try.results48, go_sem, x0, x1, x2]) rfl ⟨_, rfl, e1, e2⟩

theorem tail_assign {ops : Array Oper} {Q : Exit → Act → World → Prop} {K : Act → World → Prop} {m d : Nat} {v : Value} {a : Act} {w : World} {ty : TypeId} {pos : String} {es : Array Edge}
    (ho : ops[m]? = some ⟨some d, .assign (.const v), ty, pos, es, none⟩) (h : K (a.put (some d) v) w) : wpOp Try.prog ops Q m K a w := by
  unfold wpOp
  rw [ho]
  simp only [Region.wanted, if_true]
  left
  unfold Oper.wp
  have hr : Sem.run Try.prog (execOp a.eval ⟨some d, .assign (.const v), ty, pos, es, none⟩) w = .ok (.value v) w := by go_simp
  rw [hr, Oper.upon_value]
  exact h

theorem act_eq (a : Act) (n : Nat) (hn : a.tmps.size = n) (hd : a.defers = []) : a = ⟨((List.range n).map fun t => a.tmps.getD t undef).toArray, []⟩ := by
  obtain ⟨T, D⟩ := a
  simp only at hn hd
  subst hd
  congr 1
  refine Array.ext (by simp [hn]) fun i h1 h2 => ?_
  simp [Array.getD_eq_getD_getElem?, h1]

def divA (K : Nat) (p q : Rat) : Tmp → Kd := fun t => ([.any, .any, .box K p, .box K q, .any, .any, .rat K p, .ratC K p, .rat K q, .ratC K q] : List Kd).getD t .any

def divB (K : Nat) (p q r : Rat) : Tmp → Ke := fun t => ([.any, .any, .box K p, .box K q, .any, .any, .any, .any, .any, .any, .any, .any, .any, .any, .any, .adB (decide (p.num < 0)), .con (.bool (decide (p.num < 0))), .adB (decide (q.num < 0)), .con (.bool (decide (q.num < 0))), .con (.bool ((decide (p.num < 0)) != (decide (q.num < 0)))), .adN K p.num.natAbs, .nt K p.num.natAbs, .adN K q.den, .nt K q.den, .nt (K + K) (p.num.natAbs * q.den), .adN K p.den, .nt K p.den, .adN K q.num.natAbs, .nt K q.num.natAbs, .nt (K + K) (p.den * q.num.natAbs), .ratC r] : List Ke).getD t .any

set_option maxRecDepth 100000 in
set_option maxHeartbeats 4000000 in
theorem refDiv_any (na nb : Bool) (an ad bn bd : Option Addr) (n1 c1 n2 c2 m1 e1 m2 e2 k : Nat) (p q : Rat) (w : World) (hp : RatV w na an n1 c1 ad n2 c2 k p) (hq : RatV w nb bn m1 e1 bd m2 e2 k q) (hk : k ≤ 20000) :
    Calls Try.prog 68 #[.agg #[.bool na, .slice an n1 c1, .slice ad n2 c2], .agg #[.bool nb, .slice bn m1 e1, .slice bd m2 e2]] w (QuoP p q w) := by
  obtain ⟨r, hr⟩ : ∃ r, p / q = r := ⟨_, rfl⟩
  have HE := Lib.hid ((ref_div_eq p q).trans hr)
  have HE0 := Lib.hid hr
  have hQuo : QuoP p q w = fun e w' => ∃ v, e = .returned (.tuple #[v, .bool (decide (q ≠ 0))]) ∧ RatC w' v r ∧ Below w.heap.size w w' := by unfold QuoP; rw [hr]
  rw [hQuo]
  clear hr hQuo
  obtain ⟨bq, hbq⟩ : ∃ bq, decide (q ≠ 0) = bq := ⟨_, rfl⟩
  rw [hbq]
  obtain ⟨K, hK⟩ : ∃ K, K = k + 1 := ⟨_, rfl⟩
  have HP := Lib.hid (And.intro hp (And.intro hq (And.intro hK (show K ≤ 20001 by omega))))
  clear hp hq hK hk
  go_enter Try.func68, Try.ntmps68
  go_wp2_with fail
  obtain ⟨W0, hW0⟩ : ∃ W0, ((w.alloc (.cells #[.bool na, .slice an n1 c1, .slice ad n2 c2] 24)).alloc (.cells #[.bool nb, .slice bn m1 e1, .slice bd m2 e2] 24)).alloc (.cells #[.bool false, .slice none 0 0, .slice none 0 0] 24) = W0 := ⟨_, rfl⟩
  have hbw : Below w.heap.size w W0 := by rw [← hW0]; exact below_alloc3 _ _ _ _
  obtain ⟨hb0, hb1, hb2⟩ := alloc3_box w [.bool na, .slice an n1 c1, .slice ad n2 c2] [.bool nb, .slice bn m1 e1, .slice bd m2 e2] [.bool false, .slice none 0 0, .slice none 0 0] 24
  simp only [hW0] at hb0 hb1 hb2
  rw [hW0]
  clear hW0
  have hk1 : (Kd.box K p).holds W0 (.pointer (some ⟨w.heap.size, 0, none⟩)) := by rw [HP.out.2.2.1]; exact box_any hb0 (HP.out.1.below hbw)
  have hk2 : (Kd.box K q).holds W0 (.pointer (some ⟨w.heap.size + 1, 0, none⟩)) := by rw [HP.out.2.2.1]; exact box_any hb1 (HP.out.2.1.below hbw)
  have HX := Lib.hid (And.intro hbw (And.intro hb0 (And.intro hb1 (And.intro hb2 (And.intro hk1 hk2)))))
  clear hbw hb0 hb1 hb2 hk1 hk2
  refine region_flow_tail (Fk (divA K p q)) (by rfl) (fun t w w' v hb h => Kd.below hb h) 31 4 [] (by rfl) (by kernel_rfl) (by kernel_rfl) (by kernel_rfl) (by kernel_rfl) (fun t ht => by cases ht) [2, 3] (by kernel_rfl) ?h0 (fun t v h => Kd.draw _ _ _ h) ?steps ?fin
  case h0 =>
    intro t ht
    simp only [List.mem_cons, List.not_mem_nil, or_false] at ht
    rcases ht with rfl | rfl
    · exact HX.out.2.2.2.2.1
    · exact HX.out.2.2.2.2.2
  case steps =>
    have hk' : K ≤ 80000 := Nat.le_trans HP.out.2.2.2 (by omega)
    exact ⟨flowN_of (fl_load guard_none rfl rfl) (by decide), flowN_of (fl_refCanon guard_none (.inl rfl) rfl hk') (by decide), flowN_of (fl_load guard_none rfl rfl) (by decide), flowN_of (fl_refCanon guard_none (.inl rfl) rfl hk') (by decide), trivial⟩
  intro a w2 hb2 hsz hdf hfacts hout _
  have f6 : (Kd.ratC K p).holds w2 (a.tmps.getD 7 undef) := hfacts 1 7 (by decide) rfl
  have f8 : (Kd.ratC K q).holds w2 (a.tmps.getD 9 undef) := hfacts 3 9 (by decide) rfl
  have e2' : a.tmps.getD 2 undef = .pointer (some ⟨w.heap.size, 0, none⟩) := hout 2 (free_of (by kernel_rfl))
  have e3' : a.tmps.getD 3 undef = .pointer (some ⟨w.heap.size + 1, 0, none⟩) := hout 3 (free_of (by kernel_rfl))
  have e4' : a.tmps.getD 4 undef = .pointer (some ⟨w.heap.size + 1 + 1, 0, none⟩) := hout 4 (free_of (by kernel_rfl))
  have hsz' : a.tmps.size = 31 := hsz
  have hdf' : a.defers = [] := hdf
  change runFrom _ _ _ 2 4 a w2
  refine two_stores (t := 2) (t' := 3) (u := 7) (u' := 9) rfl rfl e2' e3' (HX.out.2.1.below hb2) (HX.out.2.2.1.below hb2) (noLimb_rat _ _ _ _ _ _ _) (noLimb_rat _ _ _ _ _ _ _) (by omega) f6.1 f8.1 fun W hT => ?_
  obtain ⟨⟨x0, y0, z0, hB0, hC0⟩, ⟨x1, y1, z1, hB1, hC1⟩, hbel, hkept⟩ := hT
  have HQ : Hid (CanonR 31 w.heap.size (w.heap.size + 1) (w.heap.size + 1 + 1) K p q w a W) :=
    Lib.hid ⟨e2', e3', e4', hsz', hdf', boxC_of hB0 hC0 f6.2, boxC_of hB1 hC1 f8.2, hkept _ _ (HX.out.2.2.2.1.below hb2) (by omega) (by omega), hbel w (below_next' HX.out.1 hb2)⟩
  clear hb2 hsz hdf hfacts hout f6 f8 e2' e3' e4' hsz' hdf' hB0 hC0 hB1 hC1 hbel hkept HX
  obtain ⟨u, hu⟩ : ∃ u : Nat → Value, ∀ t, a.tmps.getD t undef = u t := ⟨_, fun _ => rfl⟩
  have ha := act_eq a 31 HQ.out.size HQ.out.defers
  have e2' := HQ.out.e2
  have e3' := HQ.out.e3
  have e4' := HQ.out.e4
  have HQ2 := Lib.hid (And.intro HQ.out.k2 (And.intro HQ.out.k3 (And.intro HQ.out.res HQ.out.bel)))
  clear HQ
  have HQ := HQ2
  clear HQ2
  simp only [hu] at ha e2' e3' e4'
  have ha' : a = ⟨#[u 0, u 1, u 2, u 3, u 4, u 5, u 6, u 7, u 8, u 9, u 10, u 11, u 12, u 13, u 14, u 15, u 16, u 17, u 18, u 19, u 20, u 21, u 22, u 23, u 24, u 25, u 26, u 27, u 28, u 29, u 30], []⟩ := ha
  rw [e2', e3', e4'] at ha'
  clear ha hu e2' e3' e4'
  subst ha'
  have hres := HQ.out.2.2.1
  obtain ⟨g, X0, X1, X2, eg, y0, y1, y2, ⟨yn, yl, yc, dn, dl, dc, hv, hn, hd⟩, hs⟩ := HQ.out.2.1
  simp only [Value.pointer.injEq, Option.some.injEq, Addr.mk.injEq, and_true] at eg
  subst eg
  simp only [Value.agg.injEq, Array.mk.injEq, List.cons.injEq, and_true] at hv
  obtain ⟨rfl, rfl, rfl⟩ := hv
  have hl := num_len hn
  obtain ⟨⟨k0, k1, k2⟩, f0, f1, f2⟩ := hres.three
  clear hn hd hs hres
  obtain ⟨sg, hsg⟩ : ∃ sg, decide (q.num < 0) = sg := ⟨_, rfl⟩
  rw [hsg] at y0
  clear hsg
  by_cases h0 : yl = 0
  · have hb : ((yl : Int) == 0) = true := by simp [h0]
    have hq0 : q = 0 := Rat.num_eq_zero.1 (hl.1 h0)
    have hr0 : r = 0 := by rw [← HE0.out, hq0, Rat.div_def]; simp
    have hb0 : bq = false := by rw [← hbq, hq0]; simp
    subst hb0
    have HR0 := Lib.hid hr0
    clear h0 hl hq0 hbq hr0
    go_wp2_with fail
    refine (refFromInt_any 0 W (by omega) (by omega)).mono ?_
    rintro e w3 ⟨v, rfl, hv, hb3⟩
    rw [quo_zero, ← HR0.out] at hv
    have hbb := below_next' HQ.out.2.2.2 hb3
    have hB5 := HQ.out.2.2.1.below hb3
    have HV := Lib.hid hv
    obtain ⟨zn, zl, zc, en, el, ec, rfl, _⟩ := hv
    clear k0 k1 k2 f0 f1 f2 y0 y1 y2 hb3
    obtain ⟨⟨k0, k1, k2⟩, f0, f1, f2⟩ := hB5.three
    have HF := Lib.hid (And.intro hbb hB5)
    clear hB5 hbb
    go_wp2
    obtain ⟨e1, e2⟩ := ratC_end HF.out.1 HF.out.2 HV.out
    exact bodyPost_ret (v := .tuple #[.agg #[.bool (decide (r.num < 0)), .slice zn zl zc, .slice en el ec], .bool false]) (by simp [results, Try.results68, go_sem, k0, k1, k2]) rfl ⟨_, rfl, e1, e2⟩
  · have hb : ((yl : Int) == 0) = false := by rw [beq_eq_false_iff_ne]; omega
    have hq0 : q ≠ 0 := fun e => h0 (hl.2 (by rw [e]; rfl))
    have hb0 : bq = true := by rw [← hbq, decide_eq_true hq0]
    subst hb0
    clear h0 hl hq0 hbq
    go_wp2_with fail
    clear k0 k1 k2 f0 f1 f2 y0 y1 y2
    refine region_flow_tail (Fe (divB K p q r)) (by rfl) (Fe.mono _) 31 16 [] (by rfl) (by kernel_rfl) (by kernel_rfl) (by kernel_rfl) (by kernel_rfl) (fun t ht => by cases ht) [2, 3] (by kernel_rfl) ?g0 (Fe.draw _) ?gsteps ?gfin
    case g0 =>
      intro t ht
      simp only [List.mem_cons, List.not_mem_nil, or_false] at ht
      rcases ht with rfl | rfl
      · exact HQ.out.1
      · exact HQ.out.2.1
    case gsteps =>
      have hk1 : K ≤ 100000 := Nat.le_trans HP.out.2.2.2 (by omega)
      have hk2 : K + K ≤ 80000 := by have := HP.out.2.2.2; omega
      exact ⟨flowN_of ((e_field rfl).1 rfl) (by decide), flowN_of (e_loadB rfl rfl) (by decide), flowN_of ((e_field rfl).1 rfl) (by decide), flowN_of (e_loadB rfl rfl) (by decide), flowN_of (e_bneq rfl rfl rfl) (by decide), flowN_of ((e_field rfl).2.1 rfl) (by decide), flowN_of (e_loadN rfl rfl) (by decide), flowN_of ((e_field rfl).2.2 rfl) (by decide), flowN_of (e_loadN rfl rfl) (by decide), flowN_of (e_mul rfl rfl rfl hk1) (by decide), flowN_of ((e_field rfl).2.2 rfl) (by decide), flowN_of (e_loadN rfl rfl) (by decide), flowN_of ((e_field rfl).2.1 rfl) (by decide), flowN_of (e_loadN rfl rfl) (by decide), flowN_of (e_mul rfl rfl rfl hk1) (by decide), flowN_of (e_build rfl (.inl rfl) (.inl rfl) rfl HE.out hk2 hk2) (by decide), trivial⟩
    intro a3 w3 hb3 hsz3 hdf3 hfacts hout _
    have f24 : RatC w3 (a3.tmps.getD 30 undef) r := hfacts 15 30 (by decide) rfl
    have e4' : a3.tmps.getD 4 undef = .pointer (some ⟨w.heap.size + 1 + 1, 0, none⟩) := hout 4 (free_of (by kernel_rfl))
    have hB := HQ.out.2.2.1.below hb3
    have hsz : a3.tmps.size = 31 := hsz3
    have hdd0 : a3.defers = [] := hdf3
    change runFrom _ _ _ 2 16 a3 w3
    simp only [runFrom]
    refine e_store (t := 4) (u := 30) rfl e4' hB f24 fun an' ln' cn' ad' ld' cd' hR => ?_
    refine tail_assign rfl ?_
    obtain ⟨⟨x0, x1, x2⟩, _⟩ := (hB.store3 (.bool (decide (r.num < 0))) (.slice an' ln' cn') (.slice ad' ld' cd')).three
    have hdd : (a3.put (some 5) (.bool true)).defers = [] := hdd0
    have e4'' : (a3.put (some 5) (.bool true)).tmps[4]?.getD undef = .pointer (some ⟨w.heap.size + 1 + 1, 0, none⟩) := by rw [← Array.getD_eq_getD_getElem?, put_getD _ _ _ _ (show (5 : Nat) < a3.tmps.size by rw [hsz]; decide)]; exact e4'
    have e5'' : (a3.put (some 5) (.bool true)).tmps[5]?.getD undef = .bool true := by rw [← Array.getD_eq_getD_getElem?, put_getD _ _ _ _ (show (5 : Nat) < a3.tmps.size by rw [hsz]; decide)]; rfl
    have HR := Lib.hid (ratC_end (below_next' HQ.out.2.2.2 hb3) hB hR)
    generalize a3.put (some 5) (.bool true) = a8 at *
    clear hfacts hout hb3 hB hR f24
    go_wp2_with fail
    exact bodyPost_ret (v := .tuple #[.agg #[.bool (decide (r.num < 0)), .slice an' ln' cn', .slice ad' ld' cd'], .bool true]) (by simp [results, Try.results68, go_sem, e4'', e5'', x0, x1, x2]) hdd ⟨_, rfl, HR.out.1, HR.out.2⟩

theorem refDiv_a {w : World} {x y : Value} {k : Nat} {p q : Rat} (hx : RatA w x k p) (hy : RatA w y k q) (hk : k ≤ 20000) : Calls Try.prog 68 #[x, y] w (QuoP p q w) := by
  obtain ⟨_, _, _, _, _, _, _, rfl, h1⟩ := hx.v
  obtain ⟨_, _, _, _, _, _, _, rfl, h2⟩ := hy.v
  exact refDiv_any _ _ _ _ _ _ _ _ _ _ _ _ _ _ k p q w h1 h2 hk

end Go.Proofs.Ytdpiclmjdcjajaa

/-
  The walks of the reference's Small and of ToInt.
-/
namespace Go.Proofs.Ytdpiclmjdcjajaa
open Go.RowKit Num

theorem quo_div (a b : Int) : quo a 1 / quo b 1 = quo a b := by
  have e1 : ∀ n : Int, quo n 1 = rat (decide (n < 0)) n.natAbs 1 := fun n => by
    unfold quo
    have : decide ((1 : Int) < 0) = false := rfl
    rw [this, Bool.bne_false]
    rfl
  rw [e1, e1, Rat.div_def, ← rat_inv, rat_mul, Nat.mul_one, Nat.one_mul]
  rfl

end Go.Proofs.Ytdpiclmjdcjajaa

/-
  The reference's walk of ToInt.
-/
namespace Go.Proofs.Ytdpiclmjdcjajaa
open Go.RowKit Num

section
variable {κ : Tmp → Ke} {G : Nat → Option Tmp} {d s t u c : Tmp} {ty : TypeId} {pos : String} {es : Array Edge} {k x y : Nat} {q : Rat} {g : Option (Nat × Bool)}

theorem eguard {j : Nat} {b : Bool} (hG : G j = some s) (hk : κ s = .con (.bool b)) : GuardYes (Fe κ) G (some (j, b)) :=
  ⟨s, hG, fun w v h => by unfold Fe at h; rw [hk] at h; exact h⟩
theorem eguard0 : GuardYes (Fe κ) G none := trivial
theorem g_step {o : Oper} (hg : GuardYes (Fe κ) G o.guard)
    (h : ∀ (a : Act) (w : World) (Q : Exit → Act → World → Prop), (∀ t, .tmp t ∈ o.op.operands.toList → (κ t).holds w (a.tmps.getD t undef)) → o.wp Try.prog a w (fun a' w' => ∃ v, a' = a.put o.dst v ∧ Below w.heap.size w w' ∧ ∀ d, o.dst = some d → (κ d).holds w' v) Q) :
    FlowStep Try.prog (Fe κ) G o := step_yes (F := Fe κ) (G := G) hg h
/-- 'c && t'. -/
theorem g_and {v : Value} (hg : GuardYes (Fe κ) G g) (hc : κ c = .con (.bool true)) (hd : κ d = κ t) : FlowStep Try.prog (Fe κ) G ⟨some d, .pick (.tmp c) (.tmp t) (.const v), ty, pos, es, g⟩ := by
  refine g_step hg fun a w Q hf => ?_
  have h := hf t (by simp [Op.operands])
  have h' := hf c (by simp [Op.operands])
  rw [hc] at h'
  have h' : a.tmps.getD c undef = .bool true := h'
  unfold Oper.wp
  have hr : Sem.run Try.prog (execOp a.eval ⟨some d, .pick (.tmp c) (.tmp t) (.const v), ty, pos, es, g⟩) w = .ok (.value (a.tmps.getD t undef)) w := by go_simp
  rw [hr, Oper.upon_value]
  exact ⟨_, rfl, Below.refl _ _, fun d' hd' => by cases hd'; rw [hd]; exact h⟩
end

def toA (K : Nat) (p : Rat) : Tmp → Ke := fun t => ([.any, .box K p, .any, .any, .any, .any, .any, .any, .any, .any, .any, .any, .any, .any, .any, .any, .any, .adN K p.num.natAbs, .nt K p.num.natAbs, .nt K 9223372036854775808, .con (.int .i64 (cmpI ((p.num.natAbs : Nat) : Int) ((9223372036854775808 : Nat) : Int))), .con (.bool true), .con (.bool true), .con undef, .con undef, .con undef, .con undef, .con undef, .con undef, .con undef, .con undef, .con undef, .con undef, .con (.bool true)] : List Ke).getD t .any

end Go.Proofs.Ytdpiclmjdcjajaa

/-
  Lists of numbers: keep.Rats and Sum.
-/
namespace Go.Proofs.Ytdpiclmjdcjajaa
open Go.RowKit Num

/-- The i-th element of a list of numbers. -/
def ElemAt (w : World) (a : Option Addr) (i : Nat) (f : Nat → Rat) (sm : Nat → Bool) : Prop :=
  ∃ b o neg an m cn ad m2 cd k, a = some ⟨b, o, none⟩ ∧ w.cell? ⟨b, o + i * 3, none⟩ = some (.bool neg) ∧ w.cell? ⟨b, o + i * 3 + 1, none⟩ = some (.slice an m cn) ∧ w.cell? ⟨b, o + i * 3 + 2, none⟩ = some (.slice ad m2 cd) ∧
    RatV w neg an m cn ad m2 cd k (f i) ∧ sm i = decide (m ≤ 8 ∧ m2 ≤ 8)

theorem ElemAt.below {w w' : World} {a : Option Addr} {i : Nat} {f : Nat → Rat} {sm : Nat → Bool} (h : ElemAt w a i f sm) (hb : Below w.heap.size w w') : ElemAt w' a i f sm := by
  obtain ⟨b, o, neg, an, m, cn, ad, m2, cd, k, e, c0, c1, c2, hr, hs⟩ := h
  exact ⟨b, o, neg, an, m, cn, ad, m2, cd, k, e, cell_below hb c0, cell_below hb c1, cell_below hb c2, hr.below hb, hs⟩

def RatsP (n : Nat) (sm : Nat → Bool) (w : World) (e : Ending) (w' : World) : Prop := ∃ b, e = .returned (.bool b) ∧ (b = true → n ≤ 12 ∧ ∀ i, i < n → sm i = true) ∧ Below w.heap.size w w'

set_option maxHeartbeats 2000000 in
theorem rats_any (a : Option Addr) (n cap : Nat) (f : Nat → Rat) (sm : Nat → Bool) (w : World) (hn : n ≤ 9223372036854775807) (h : ∀ i, i < n → ElemAt w a i f sm) :
    Calls Try.prog 24 #[.slice a n cap, .int .i64 12] w (RatsP n sm w) := by
  go_enter Try.func24, Try.ntmps24
  go_wp2
  go_loopw [5] (fun i wr => ∃ q : Nat, i = .int .i64 q ∧ q ≤ n ∧ q ≤ 13 ∧ (∀ j, j < q → sm j = true) ∧ Below w.heap.size w wr) (fun i _ => 13 - (intOf i).toNat)
  case atStart => exact ⟨0, rfl, Nat.zero_le _, by omega, fun j hj => by omega, Below.refl _ _⟩
  case round =>
    obtain ⟨q, rfl, hq, hq13, hsm, hbel⟩ := hrel
    by_cases hlt : q < n ∧ q ≤ 12
    · obtain ⟨b, o, neg, an, m, cn, ad, m2, cd, k, rfl, c0, c1, c2, hr, hs⟩ := (h q hlt.1).below hbel
      have h1 := hlt.1
      have h2 := hlt.2
      have HS := Lib.hid (And.intro hsm (And.intro hbel hs))
      clear hlt hsm hbel hs hr
      go_wp2_with fail
      refine (keepRat_any _ _ _ _ _ _ _ _).mono ?_
      rintro e w1 ⟨rfl, hb1⟩
      rw [← HS.out.2.2]
      have HB := Lib.hid (below_next' HS.out.2.1 hb1)
      clear c0 c1 c2 hb1
      cases hsq : sm q
      · go_wp2
        go_ret
        exact ⟨false, rfl, fun e => (by cases e), HB.out⟩
      · have HQ := Lib.hid hsq
        go_wp2
        go_round
        case rel =>
          refine ⟨q + 1, by go_num, by omega, by omega, fun j hj => ?_, HB.out⟩
          rcases Nat.lt_or_ge j q with h | h
          · exact HS.out.1 j h
          · rw [show j = q by omega]; exact HQ.out
        case measure => simp [intOf]; omega
    · have HS := Lib.hid (And.intro hsm (And.intro hbel hlt))
      clear hsm hbel
      by_cases h1 : q < n
      · have h2 : ¬ q ≤ 12 := fun h => hlt ⟨h1, h⟩
        clear hlt
        go_wp2
        go_ret
        refine ⟨_, rfl, fun e => ?_, HS.out.2.1⟩
        simp at e
        omega
      · clear hlt
        go_wp2
        go_ret
        refine ⟨_, rfl, fun e => ?_, HS.out.2.1⟩
        simp at e
        exact ⟨by omega, fun i hi => HS.out.1 i (by omega)⟩

/-- The sum of the first numbers. -/
def sumN (f : Nat → Rat) : Nat → Rat
  | 0 => 0
  | i + 1 => sumN f i + f i

theorem sz_sumN {f : Nat → Rat} {n : Nat} (h : ∀ i, i < n → Sz (f i) 9) : ∀ i, i ≤ n → Sz (sumN f i) (10 * i + 1)
  | 0, _ => show Sz 0 1 from sz_of_small (by decide) (by decide)
  | i + 1, hi => by
    have h1 := sz_add (sz_sumN h i (by omega)) (h i (by omega))
    rw [show 10 * (i + 1) + 1 = 10 * i + 1 + 9 + 1 by omega]
    exact h1

/-- What Sum holds. -/
def SumI (w : World) (g : Nat) (s : Rat) (wr : World) : Prop :=
  ∃ an ln cn ad ld cd, BoxV wr w.heap.size g 24 [.bool (decide (s.num < 0)), .slice an ln cn, .slice ad ld cd] ∧ RatC wr (.agg #[.bool (decide (s.num < 0)), .slice an ln cn, .slice ad ld cd]) s ∧
    BoxV wr w.heap.size w.heap.size 24 [.bool false, .slice none 0 0, .slice none 0 0] ∧ Below w.heap.size w wr

theorem SumI.next {w w2 : World} {g : Nat} {s : Rat} {an ad : Option Addr} {ln cn ld cd : Nat} {x y z : Value} (hg : w.heap.size ≠ g) (hB : BoxV w2 w.heap.size g 24 [x, y, z]) (hx : NoLimb [x, y, z])
    (hZ : BoxV w2 w.heap.size w.heap.size 24 [.bool false, .slice none 0 0, .slice none 0 0]) (hb : Below w.heap.size w w2) (h : RatC w2 (.agg #[.bool (decide (s.num < 0)), .slice an ln cn, .slice ad ld cd]) s) :
    SumI w g s (((w2.setCell ⟨g, 0, none⟩ (.bool (decide (s.num < 0)))).setCell ⟨g, 1, none⟩ (.slice an ln cn)).setCell ⟨g, 2, none⟩ (.slice ad ld cd)) := by
  have hgr := grown_set3 w2 g (.bool (decide (s.num < 0))) (.slice an ln cn) (.slice ad ld cd)
  exact ⟨an, ln, cn, ad, ld, cd, hB.store3 _ _ _, h.other hB hx hgr, hZ.kept hgr (by simpa using hg), below_set3 hb hB.block.1 _ _ _⟩

set_option maxHeartbeats 2000000 in
theorem sum_any (a : Option Addr) (n cap : Nat) (f : Nat → Rat) (sm : Nat → Bool) (w : World) (hn : n ≤ 12) (h : ∀ i, i < n → ElemAt w a i f sm) (hsm : ∀ i, i < n → sm i = true) :
    Calls Try.prog 105 #[.slice a n cap] w (RatP (sumN f n) w) := by
  have hel : ∀ (W : World), Below w.heap.size w W → ∀ i, i < n → ∃ b o neg an m cn ad m2 cd, a = some ⟨b, o, none⟩ ∧ W.cell? ⟨b, o + i * 3, none⟩ = some (.bool neg) ∧ W.cell? ⟨b, o + i * 3 + 1, none⟩ = some (.slice an m cn) ∧ W.cell? ⟨b, o + i * 3 + 2, none⟩ = some (.slice ad m2 cd) ∧ RatV W neg an m cn ad m2 cd 8 (f i) := fun W hW i hi => by
    obtain ⟨b, o, neg, an, m, cn, ad, m2, cd, k, e, c0, c1, c2, hr, hs⟩ := (h i hi).below hW
    rw [hsm i hi] at hs
    have hs' := of_decide_eq_true hs.symm
    exact ⟨b, o, neg, an, m, cn, ad, m2, cd, e, c0, c1, c2, hr.le hs'.1 hs'.2⟩
  have hsz : ∀ i, i < n → Sz (f i) 9 := fun i hi => by
    obtain ⟨_, _, _, _, _, _, _, _, _, _, _, _, _, hr⟩ := hel w (Below.refl _ _) i hi
    exact hr.sz
  have hb0 := below_alloc1 w (.cells #[.bool false, .slice none 0 0, .slice none 0 0] 24)
  have hB := BoxV.new w w.heap.size 24 (Nat.le_refl _) [.bool false, .slice none 0 0, .slice none 0 0]
  have HA := Lib.hid (And.intro hel (And.intro (sz_sumN hsz) (And.intro hb0 hB)))
  clear hel hsz hb0 hB h hsm
  go_enter Try.func105, Try.ntmps105
  go_wp2_with fail
  refine (zero_any _).mono ?_
  rintro e w1 ⟨v, rfl, hv, hb1⟩
  have hB1 := HA.out.2.2.2.below hb1
  have hlt := hB1.block.2
  have H1 := Lib.hid (And.intro hv (And.intro hB1 (below_next' HA.out.2.2.1 hb1)))
  obtain ⟨z1, z2, z3, z4, z5, z6, rfl, _⟩ := hv
  clear hb1 hB1
  go_wp2
  have hb2 := below_alloc1 w1 (.cells #[.bool (decide ((0 : Rat).num < 0)), .slice z1 z2 z3, .slice z4 z5 z6] 24)
  have hB2 := BoxV.new w1 w.heap.size 24 (Nat.le_of_lt hlt) [.bool (decide ((0 : Rat).num < 0)), .slice z1 z2 z3, .slice z4 z5 z6]
  have HI := Lib.hid (show SumI w w1.heap.size (sumN f 0) _ from ⟨z1, z2, z3, z4, z5, z6, hB2, H1.out.1.below hb2, H1.out.2.1.below hb2, below_next' H1.out.2.2 hb2⟩)
  clear hb2 hB2
  go_loopw [9] (fun i wr => ∃ q : Nat, i = .int .i64 q ∧ q ≤ n ∧ SumI w w1.heap.size (sumN f q) wr) (fun i _ => n - (intOf i).toNat)
  case atStart => exact ⟨0, rfl, Nat.zero_le _, HI.out⟩
  case round =>
    obtain ⟨q, rfl, hq, an, ln, cn, ad, ld, cd, hBs, hC, hZ, hbel⟩ := hrel
    obtain ⟨⟨k0, k1, k2⟩, i0, i1, i2⟩ := hBs.three
    have t1 := hBs.block.2
    by_cases hlt2 : q < n
    · obtain ⟨b, o, neg, ea, m, cn', ed, m2, cd', rfl, c0, c1, c2, hr⟩ := HA.out.1 _ hbel q hlt2
      have hb5 := fun W => below_alloc1 W (.cells #[.bool neg, .slice ea m cn', .slice ed m2 cd'] 24)
      have hadd := add_a (k := 200) (((hC.a (HA.out.2.1 q hq)).le (by omega)).below (hb5 _)) ((hr.a.le (by omega)).below (hb5 _)) (by omega)
      have HR := Lib.hid (And.intro hadd (And.intro hBs (And.intro hZ (And.intro hbel (hb5 wr)))))
      clear hadd hBs hZ hbel hb5 hC hr
      go_wp2_with fail
      refine HR.out.1.mono ?_
      rintro e w2 ⟨v, rfl, hv, hb6⟩
      have hb7 := below_next HR.out.2.2.2.2 hb6
      have hB2 := HR.out.2.1.below hb7
      have hZ2 := HR.out.2.2.1.below hb7
      have hbel2 := below_next' HR.out.2.2.2.1 hb7
      have HV := Lib.hid hv
      obtain ⟨y1, y2, y3, y4, y5, y6, rfl, _⟩ := hv
      clear k0 k1 k2 i0 i1 i2 c0 c1 c2 hb6 hb7 t1
      obtain ⟨⟨k0, k1, k2⟩, i0, i1, i2⟩ := hB2.three
      have HF := Lib.hid (And.intro hB2 (And.intro hZ2 hbel2))
      clear hB2 hZ2 hbel2
      go_wp2
      go_round
      case rel => exact ⟨q + 1, by go_num, by omega, SumI.next (s := sumN f q + f q) (by omega) HF.out.1 (noLimb_rat _ _ _ _ _ _ _) HF.out.2.1 HF.out.2.2 HV.out⟩
      case measure => simp [intOf]; omega
    · obtain ⟨⟨x0, x1, x2⟩, j0, j1, j2⟩ := hZ.three
      have HF := Lib.hid (And.intro hbel (And.intro hZ hC))
      have hqn : q = n := by omega
      subst hqn
      clear hbel hZ hC hBs hlt2
      go_wp2
      obtain ⟨e1, e2⟩ := ratC_end HF.out.1 HF.out.2.1 HF.out.2.2
      obtain ⟨⟨x0, x1, x2⟩, _⟩ := (HF.out.2.1.store3 (.bool (decide ((sumN f q).num < 0))) (.slice an ln cn) (.slice ad ld cd)).three
      exact bodyPost_ret (v := .agg #[.bool (decide ((sumN f q).num < 0)), .slice an ln cn, .slice ad ld cd]) (by simp [results, Try.results105, go_sem, x0, x1, x2]) rfl ⟨_, rfl, e1, e2⟩

end Go.Proofs.Ytdpiclmjdcjajaa

/-
  The reference's walk of Sum.
-/
namespace Go.Proofs.Ytdpiclmjdcjajaa
open Go.RowKit Num

/-- One element of a list. -/
def ElemV (w : World) (a : Option Addr) (i : Nat) (p : Rat) : Prop :=
  ∃ b o x0 x1 x2, a = some ⟨b, o, none⟩ ∧ w.cell? ⟨b, o + i * 3, none⟩ = some x0 ∧ w.cell? ⟨b, o + i * 3 + 1, none⟩ = some x1 ∧ w.cell? ⟨b, o + i * 3 + 2, none⟩ = some x2 ∧ RatA w (.agg #[x0, x1, x2]) 8 p
theorem ElemV.below {w w' : World} {a : Option Addr} {i : Nat} {p : Rat} (hb : Below w.heap.size w w') (h : ElemV w a i p) : ElemV w' a i p := by
  obtain ⟨b, o, x0, x1, x2, e, c0, c1, c2, hr⟩ := h
  exact ⟨b, o, x0, x1, x2, e, cell_below hb c0, cell_below hb c1, cell_below hb c2, hr.below hb⟩

def Ke.sl (a : Option Addr) (n cap i : Nat) (p : Rat) : Ke := ⟨fun w v => v = .slice a n cap ∧ ElemV w a i p, fun hb h => ⟨h.1, h.2.below hb⟩⟩
def Ke.el (p : Rat) : Ke := ⟨fun w v => ∃ b o x0 x1 x2, v = .pointer (some ⟨b, o, none⟩) ∧ w.cell? ⟨b, o, none⟩ = some x0 ∧ w.cell? ⟨b, o + 1, none⟩ = some x1 ∧ w.cell? ⟨b, o + 2, none⟩ = some x2 ∧ RatA w (.agg #[x0, x1, x2]) 8 p,
  fun hb ⟨b, o, x0, x1, x2, e, c0, c1, c2, hr⟩ => ⟨b, o, x0, x1, x2, e, cell_below hb c0, cell_below hb c1, cell_below hb c2, hr.below hb⟩⟩
def Ke.ra (k : Nat) (p : Rat) : Ke := ⟨fun w v => RatA w v k p, fun hb h => h.below hb⟩

theorem run_index (a : Act) (d : Option Tmp) (ty : TypeId) (pos : String) (es : Array Edge) (w : World) (t u : Tmp) (b o n cap i : Nat)
    (ht : a.tmps.getD t undef = .slice (some ⟨b, o, none⟩) n cap) (hu : a.tmps.getD u undef = .int .i64 i) (hi : i < n) :
    Sem.run Try.prog (execOp a.eval ⟨d, .indexAddr 32 (.tmp t) (.tmp u), ty, pos, es, none⟩) w = .ok (.value (.pointer (some ⟨b, o + i * 3, none⟩))) w := by
  go_simp

theorem run_load24' (a : Act) (d : Option Tmp) (ty : TypeId) (pos : String) (es : Array Edge) (w : World) (t : Tmp) (g o : Nat) (x y z : Value)
    (ht : a.tmps.getD t undef = .pointer (some ⟨g, o, none⟩)) (h0 : w.cell? ⟨g, o, none⟩ = some x) (h1 : w.cell? ⟨g, o + 1, none⟩ = some y) (h2 : w.cell? ⟨g, o + 2, none⟩ = some z) :
    Sem.run Try.prog (execOp a.eval ⟨d, .load 24 (.tmp t), ty, pos, es, none⟩) w = .ok (.value (.agg #[x, y, z])) w := by
  go_simp

section
variable {κ : Tmp → Ke} {G : Nat → Option Tmp} {d s t u c : Tmp} {ty : TypeId} {pos : String} {es : Array Edge} {k x y : Nat} {p q : Rat}
theorem e_index {a' : Option Addr} {n cap i : Nat} (ht : κ t = .sl a' n cap i p) (hu : κ u = .con (.int .i64 i)) (hd : κ d = .el p) (hi : i < n) : FlowStep Try.prog (Fe κ) G ⟨some d, .indexAddr 32 (.tmp t) (.tmp u), ty, pos, es, none⟩ := by
  refine e_step rfl fun a w Q hf => ?_
  have h := hf t (by simp [Op.operands])
  have h' := hf u (by simp [Op.operands])
  rw [ht] at h
  rw [hu] at h'
  obtain ⟨e, b, o, x0, x1, x2, rfl, c0, c1, c2, hr⟩ := (show _ ∧ ElemV w _ _ _ from h)
  have h' : a.tmps.getD u undef = .int .i64 i := h'
  unfold Oper.wp
  rw [run_index _ _ _ _ _ _ _ _ b o n cap i e h' hi, Oper.upon_value]
  exact ⟨_, rfl, Below.refl _ _, fun d' hd' => by cases hd'; rw [hd]; exact ⟨b, o + i * 3, x0, x1, x2, rfl, c0, c1, c2, hr⟩⟩
theorem e_loadE (ht : κ t = .el p) (hd : κ d = .ra 8 p) : FlowStep Try.prog (Fe κ) G ⟨some d, .load 24 (.tmp t), ty, pos, es, none⟩ := by
  refine e_step rfl fun a w Q hf => ?_
  have h := hf t (by simp [Op.operands])
  rw [ht] at h
  obtain ⟨b, o, x0, x1, x2, e, c0, c1, c2, hr⟩ := (show ∃ b o x0 x1 x2, a.tmps.getD t undef = .pointer (some ⟨b, o, none⟩) ∧ w.cell? ⟨b, o, none⟩ = some x0 ∧ w.cell? ⟨b, o + 1, none⟩ = some x1 ∧ w.cell? ⟨b, o + 2, none⟩ = some x2 ∧ RatA w (.agg #[x0, x1, x2]) 8 p from h)
  unfold Oper.wp
  rw [run_load24' _ _ _ _ _ _ _ b o x0 x1 x2 e c0 c1 c2, Oper.upon_value]
  exact ⟨_, rfl, Below.refl _ _, fun d' hd' => by cases hd'; rw [hd]; exact hr⟩
set_option maxRecDepth 100000 in
theorem e_loadC (ht : κ t = .box k q) (hd : κ d = .ra k q) : FlowStep Try.prog (Fe κ) G ⟨some d, .load 24 (.tmp t), ty, pos, es, none⟩ := by
  refine e_step rfl fun a w Q hf => ?_
  have h := hf t (by simp [Op.operands])
  rw [ht] at h
  obtain ⟨b, x0, x1, x2, e, c0, c1, c2, hr, hs⟩ := (show (Kd.boxC k q).holds w _ from h)
  unfold Oper.wp
  rw [run_load24' _ _ _ _ _ _ _ b 0 x0 x1 x2 e c0 c1 c2, Oper.upon_value]
  exact ⟨_, rfl, Below.refl _ _, fun d' hd' => by cases hd'; rw [hd]; exact hr.a hs⟩
theorem e_add36 (ht : κ t = .ra k p) (hu : κ u = .ra 8 q) (hd : κ d = .ratC (p + q)) (hk : k ≤ 10000) : FlowStep Try.prog (Fe κ) G ⟨some d, .call ⟨.value (.func 44), #[.tmp t, .tmp u], #[24, 24]⟩, ty, pos, es, none⟩ := by
  refine e_step rfl fun a w Q hf => ?_
  have h1 := hf t (by simp [Op.operands, Call.operands])
  have h2 := hf u (by simp [Op.operands, Call.operands])
  rw [ht] at h1
  rw [hu] at h2
  have h1 : RatA w (a.tmps.getD t undef) k p := h1
  have h2 : RatA w (a.tmps.getD u undef) 8 q := h2
  unfold Oper.wp
  rw [c2_36, Oper.upon_enter]
  refine (refAdd_a (k := k + 8) (h1.le (by omega)) (h2.le (by omega)) (by omega)).mono ?_
  rintro e w' ⟨v, rfl, hv, hb⟩
  exact ⟨_, rfl, hb, fun d' hd' => by cases hd'; rw [hd]; exact hv⟩
end

end Go.Proofs.Ytdpiclmjdcjajaa

/-
  The walk of the law RationalSums, and a list of numbers as an argument. No conditions.
-/
namespace Go.Proofs.Ytdpiclmjdcjajaa
open Go.ChangeShapes Go.WideShapes Go.ChangeAt Go.RowKit Go.Deep Num

set_option maxRecDepth 100000 in
/-- One element of a list of numbers. -/
theorem elem_open {H : Type} {enc : TypeId × Value → H} {W : World} {sp : Nat → Bool} {held : Bool} {n base b o : Nat} {i : Nat} {cs : List Value} {x : DataW H × List MemPlace}
    (hc : W.cells? base ((⟨b, o, none⟩ : Addr).add (i * 3)) 3 = some cs) (ht : DataW.trod enc Try.prog W 0 sp held n 24 cs = some x) : ∃ (q : Rat) (s : Bool), ElemAt W (some ⟨b, o, none⟩) i (fun _ => q) (fun _ => s) := by
  obtain ⟨_, hl, hcell⟩ := World.cells?_some hc
  obtain ⟨xs, n', _, _, _, hlen, hf⟩ := DataW.trod_struct Try.underlying24 ht
  match cs, hl with
  | [v0, v1, v2], _ =>
    have c0 := hcell 0 (by omega)
    have c1 := hcell 1 (by omega)
    have c2 := hcell 2 (by omega)
    simp only [add_spot] at c0 c1 c2
    match xs, hlen with
    | [y0, y1, y2], _ =>
      obtain ⟨o0, k0⟩ := hone_of Try.one24 0 _ rfl
      obtain ⟨o1, k1⟩ := hone_of Try.one24 1 _ rfl
      obtain ⟨o2, k2⟩ := hone_of Try.one24 2 _ rfl
      have h0 : DataW.trod enc Try.prog W 0 sp held n' 4 [v0] = some y0 := by simpa [show Try.prog.cellsOf 4 = 1 from k0] using hf 0 _ rfl
      have h1 : DataW.trod enc Try.prog W 0 sp held n' 22 [v1] = some y1 := by simpa [show Try.prog.cellsOf 22 = 1 from k1] using hf 1 _ rfl
      have h2 : DataW.trod enc Try.prog W 0 sp held n' 22 [v2] = some y2 := by simpa [show Try.prog.cellsOf 22 = 1 from k2] using hf 2 _ rfl
      obtain ⟨bb, hb, _⟩ := DataW.trod_bool Try.underlying4 h0
      obtain rfl : v0 = .bool bb := by simpa using hb
      obtain ⟨an, m, cn, l1, rfl, e1, L1⟩ := limbs_open h1
      obtain ⟨ad, m2, cd, l2, rfl, e2, L2⟩ := limbs_open h2
      exact ⟨_, _, b, o, bb, an, m, cn, ad, m2, cd, max m m2, rfl, c0, c1, c2, ⟨l1, l2, e1, e2, L1, L2, by omega, by omega, rfl⟩, rfl⟩

set_option maxRecDepth 100000 in
theorem rats_open {H : Type} {enc : TypeId × Value → H} {W : World} {sp : Nat → Bool} {held : Bool} {fuel : Nat} {v : Value} {x : DataW H × List MemPlace} (hf : DataW.trod enc Try.prog W 0 sp held fuel 32 [v] = some x) :
    ∃ a n cap f sm, v = .slice a n cap ∧ n ≤ 9223372036854775807 ∧ ∀ i, i < n → ElemAt W a i f sm := by
  rcases open_slice Try.underlying32 hf with ⟨hcs, _⟩ | ⟨ad, len, cap, m, n, D, Pl, hcs, _, hl, hm, hmm, _, hi⟩
  · simp at hcs
    exact ⟨none, 0, 0, fun _ => 0, fun _ => false, hcs, by omega, fun i hi => by omega⟩
  · simp at hcs
    have hsp : 0 < len → ad.spot = none := fun h0 => by
      obtain ⟨cs', hc, _⟩ := hi 0 (by rw [hmm]; split <;> omega)
      rw [Try.cells24] at hc
      obtain ⟨_, hl', hcell⟩ := World.cells?_some hc
      have h := hcell 0 (by omega)
      rw [List.getElem?_eq_getElem (by omega)] at h
      exact World.cell?_spot (a := ad) h
    obtain ⟨b, o, sp'⟩ := ad
    have hx : ∀ i, ∃ (q : Rat) (s : Bool), i < len → ElemAt W (some ⟨b, o, sp'⟩) i (fun _ => q) (fun _ => s) := fun i => by
      by_cases hlt : i < len
      · obtain rfl : sp' = none := hsp (by omega)
        obtain ⟨cs', hc, ht⟩ := hi i (by rw [hmm]; split <;> omega)
        rw [Try.cells24] at hc
        obtain ⟨q, s, h⟩ := elem_open hc ht
        exact ⟨q, s, fun _ => h⟩
      · exact ⟨0, false, fun h => absurd h hlt⟩
    refine ⟨some ⟨b, o, sp'⟩, len, cap, fun i => Classical.choose (hx i), fun i => Classical.choose (Classical.choose_spec (hx i)), hcs, by unfold maxLen at hm; omega, fun i hlt => ?_⟩
    exact Classical.choose_spec (Classical.choose_spec (hx i)) hlt

end Go.Proofs.Ytdpiclmjdcjajaa
