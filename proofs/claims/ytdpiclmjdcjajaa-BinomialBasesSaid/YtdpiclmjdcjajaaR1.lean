/-
  The walks of zero, magnitude, Small and FromInt. No conditions.
-/
import Derived.Test.YtdpiclmjdcjajaaRat
import Derived.Deep.RegionHeld3
import Derived.Deep.RegionWith
namespace Go.Proofs.Ytdpiclmjdcjajaa
open Go.RowKit Num

/-- A function that answers a canonical number. -/
def RatP (q : Rat) (w : World) (e : Ending) (w' : World) : Prop := ∃ v, e = .returned v ∧ RatC w' v q ∧ Below w.heap.size w w'

theorem lim_one {w : World} {g : Nat} (h : w.cell? ⟨g, 0, none⟩ = some (.int .u32 1)) : Nt w (.slice (some ⟨g, 0, none⟩) 1 1) 1 := by
  have h1 : ∀ i, nth [1] i < 1000000000 := fun i => by
    rcases i with _ | i
    · rw [nth_cons_zero]; omega
    · rw [nth_cons_succ, nth_nil]; omega
  refine ⟨[1], ⟨_, _, rfl, by simp, by omega, fun i => by have := h1 i; omega, fun i hi => ⟨_, 0, rfl, ?_⟩⟩, ⟨h1, .inr (by simp [nth])⟩, rfl⟩
  simp at hi; subst hi
  exact h

theorem wrap_neg {n : Int} (h1 : -9223372036854775808 ≤ n) (h2 : n < 0) : IntKind.u64.wrap (-IntKind.u64.wrap n) = (n.natAbs : Int) := by
  simp [IntKind.wrap, IntKind.bits, IntKind.signed]; omega

set_option maxHeartbeats 1000000 in
theorem zero_any (w : World) : Calls Try.prog 94 #[] w (RatP 0 w) := by
  go_enter Try.func94, Try.ntmps94
  go_wp2
  refine bodyPost_ret (v := .agg #[.bool false, .slice none 0 0, .slice (some ⟨w.heap.size + 1, 0, none⟩) 1 1]) (by simp [results, Try.results94, go_sem]) rfl ⟨_, rfl, ?_, ?_⟩
  · refine ⟨_, _, _, _, _, _, rfl, Nt.nil _, lim_one ?_⟩
    rw [World.cell?_alloc_at _ _ _ _ (by simp)]; rfl
  · exact ((Below.refl _ _).alloc (Nat.le_refl _) _).alloc (by simp) _

set_option maxHeartbeats 1000000 in
theorem magnitude_any (n : Int) (w : World) (h1 : -9223372036854775808 ≤ n) (h2 : n ≤ 9223372036854775807) : Calls Try.prog 101 #[.int .i64 n] w fun e w' => e = .returned (.int .u64 (n.natAbs : Int)) ∧ w' = w := by
  by_cases h : n < 0
  · go_enter Try.func101, Try.ntmps101
    go_wp2
    go_ret
    exact ⟨ret_int (wrap_neg h1 h), rfl⟩
  · go_enter Try.func101, Try.ntmps101
    go_wp2
    go_ret
    exact ⟨ret_int (by omega), rfl⟩

theorem natAbs_pos {n : Int} (h : n ≠ 0) : 0 < n.natAbs := by omega

/-- The quotient of two integers, by sign and magnitudes. -/
def quo (a b : Int) : Rat := rat ((decide (a < 0)) != (decide (b < 0))) a.natAbs b.natAbs

set_option maxHeartbeats 4000000 in
theorem small_any (a b : Int) (w : World) (a1 : -9223372036854775808 ≤ a) (a2 : a ≤ 9223372036854775807) (b1 : -9223372036854775808 ≤ b) (b2 : b ≤ 9223372036854775807) :
    Calls Try.prog 56 #[.int .i64 a, .int .i64 b] w (RatP (quo a b) w) := by
  have hcase : ((a == 0) = true ∧ quo a b = 0) ∨ ((a == 0) = false ∧ (b == 0) = true ∧ quo a b = 0) ∨ ((a == 0) = false ∧ (b == 0) = false ∧ a ≠ 0 ∧ b ≠ 0) := by
    by_cases h1 : a = 0
    · exact .inl ⟨by simpa using h1, by subst h1; exact rat_zero_num _ _⟩
    · by_cases h2 : b = 0
      · exact .inr (.inl ⟨by simpa using h1, by simpa using h2, by subst h2; exact rat_zero_den _ _⟩)
      · exact .inr (.inr ⟨by simpa using h1, by simpa using h2, h1, h2⟩)
  have hz := fun W => zero_any W
  rcases hcase with ⟨h1, h2⟩ | ⟨h1, h2, h3⟩ | ⟨h1, h2, h3, h4⟩
  · have H := Lib.hid h2
    clear h2
    go_enter Try.func56, Try.ntmps56
    go_wp2_with fail
    refine (zero_any _).mono ?_
    rintro e w1 ⟨v, rfl, hv, hb⟩
    obtain ⟨an, ln, cn, ad, ld, cd, rfl, hn, hd⟩ := hv
    have hbx := (BoxV.new w w.heap.size 24 (Nat.le_refl _) [.bool false, .slice none 0 0, .slice none 0 0]).below hb
    obtain ⟨⟨k0, k1, k2⟩, f0, f1, f2⟩ := hbx.three
    have HB := Lib.hid (And.intro hb (And.intro hbx (And.intro hn hd)))
    clear hb hbx hn hd
    go_wp2
    obtain ⟨hb, hbx, hn, hd⟩ := HB.out
    have hb0 : Below w.heap.size w w1 := ((Below.refl _ _).alloc (Nat.le_refl _) _).trans (hb.mono (by simp))
    refine bodyPost_ret (v := .agg #[.bool false, .slice an ln cn, .slice ad ld cd]) (by simp [results, Try.results56, go_sem, k0, k1, k2]) rfl ⟨_, rfl, ?_, below_set3 hb0 (Nat.le_refl _) _ _ _⟩
    rw [H.out]
    exact RatC.other (⟨an, ln, cn, ad, ld, cd, rfl, hn, hd⟩ : RatC w1 _ 0) hbx (noLimb_rat _ _ _ _ _ _ _) (grown_set3 _ _ _ _ _)
  · have H := Lib.hid h3
    clear h3
    go_enter Try.func56, Try.ntmps56
    go_wp2_with fail
    refine (zero_any _).mono ?_
    rintro e w1 ⟨v, rfl, hv, hb⟩
    obtain ⟨an, ln, cn, ad, ld, cd, rfl, hn, hd⟩ := hv
    have hbx := (BoxV.new w w.heap.size 24 (Nat.le_refl _) [.bool false, .slice none 0 0, .slice none 0 0]).below hb
    obtain ⟨⟨k0, k1, k2⟩, f0, f1, f2⟩ := hbx.three
    have HB := Lib.hid (And.intro hb (And.intro hbx (And.intro hn hd)))
    clear hb hbx hn hd
    go_wp2
    obtain ⟨hb, hbx, hn, hd⟩ := HB.out
    have hb0 : Below w.heap.size w w1 := ((Below.refl _ _).alloc (Nat.le_refl _) _).trans (hb.mono (by simp))
    refine bodyPost_ret (v := .agg #[.bool false, .slice an ln cn, .slice ad ld cd]) (by simp [results, Try.results56, go_sem, k0, k1, k2]) rfl ⟨_, rfl, ?_, below_set3 hb0 (Nat.le_refl _) _ _ _⟩
    rw [H.out]
    exact RatC.other (⟨an, ln, cn, ad, ld, cd, rfl, hn, hd⟩ : RatC w1 _ 0) hbx (noLimb_rat _ _ _ _ _ _ _) (grown_set3 _ _ _ _ _)
  · obtain ⟨A, hA⟩ : ∃ A, A = a.natAbs := ⟨_, rfl⟩
    obtain ⟨C, hC⟩ : ∃ C, C = b.natAbs := ⟨_, rfl⟩
    have hA0 : 0 < A := by omega
    have hC0 : 0 < C := by omega
    have hA1 : A ≤ 9223372036854775808 := by omega
    have hC1 : C ≤ 9223372036854775808 := by omega
    have hg0 : Nat.gcd A C ≤ A := Nat.gcd_le_left _ hA0
    have hgp : 0 < Nat.gcd A C := Nat.gcd_pos_of_pos_left _ hA0
    have hws := fun W => words_any A C W (by omega) (by omega)
    obtain ⟨G, hG⟩ : ∃ G, Nat.gcd A C = G := ⟨_, rfl⟩
    unfold WordsP at hws
    rw [hG] at hws hg0 hgp
    have hG1 : G ≤ 9223372036854775808 := by omega
    have hqa : A / G ≤ A := Nat.div_le_self _ _
    have hqc : C / G ≤ C := Nat.div_le_self _ _
    have hn1 := fun W => naturalOf_any (A / G) (by omega) W
    have hn2 := fun W => naturalOf_any (C / G) (by omega) W
    have hm1 := fun W => magnitude_any a W a1 a2
    have hm2 := fun W => magnitude_any b W b1 b2
    rw [← hA] at hm1
    rw [← hC] at hm2
    have hq : quo a b = rat ((decide (a < 0)) != (decide (b < 0))) A C := by unfold quo; rw [hA, hC]
    have HA := Lib.hid (And.intro hws (And.intro hn1 (And.intro hn2 (And.intro hm1 (And.intro hm2 (And.intro hq (And.intro hA0 (And.intro hC0 hG))))))))
    obtain ⟨QA, hQA⟩ : ∃ QA, A / G = QA := ⟨_, rfl⟩
    obtain ⟨QC, hQC⟩ : ∃ QC, C / G = QC := ⟨_, rfl⟩
    have hwA : IntKind.u64.wrap ((A : Int) / (G : Int)) = (QA : Int) := by
      rw [← hQA, ← Int.natCast_ediv]; exact IntWalk.u64_in _ (by omega)
    have hwC : IntKind.u64.wrap ((C : Int) / (G : Int)) = (QC : Int) := by
      rw [← hQC, ← Int.natCast_ediv]; exact IntWalk.u64_in _ (by omega)
    have HCC := Lib.hid (And.intro hwA (And.intro hwC (And.intro hQA hQC)))
    clear hws hn1 hn2 hm1 hm2 hq hA0 hC0 hG hA hC hwA hwC hQA hQC h3 h4 hqa hqc
    go_enter Try.func56, Try.ntmps56
    go_wp2_with fail
    refine (HA.out.2.2.2.1 _).mono ?_
    rintro e w1 ⟨rfl, rfl⟩
    go_wp2_with fail
    refine (HA.out.2.2.2.2.1 _).mono ?_
    rintro e w1 ⟨rfl, rfl⟩
    go_wp2_with fail
    refine (HA.out.1 _).mono ?_
    rintro e w1 ⟨rfl, n1, rfl⟩
    go_wp2_with fail
    have hbel : Below w.heap.size w ((w.alloc (.cells #[.bool false, .slice none 0 0, .slice none 0 0] 24)).drewN n1) := below_drewN ((Below.refl _ _).alloc (Nat.le_refl _) _) _
    have hbx : BoxV ((w.alloc (.cells #[.bool false, .slice none 0 0, .slice none 0 0] 24)).drewN n1) w.heap.size w.heap.size 24 [.bool false, .slice none 0 0, .slice none 0 0] :=
      (BoxV.new w w.heap.size 24 (Nat.le_refl _) [.bool false, .slice none 0 0, .slice none 0 0]).below (below_drewN (Below.refl _ _) _)
    obtain ⟨W0, hW0⟩ : ∃ W0, (w.alloc (.cells #[.bool false, .slice none 0 0, .slice none 0 0] 24)).drewN n1 = W0 := ⟨_, rfl⟩
    rw [hW0] at hbel hbx ⊢
    obtain ⟨⟨k0, k1, k2⟩, f0, f1, f2⟩ := hbx.three
    have HX := Lib.hid (And.intro hbel hbx)
    obtain ⟨hws, hn1, hn2, hm1, hm2, hq, hA0, hC0, hG⟩ := HA.out
    obtain ⟨hwA, hwC, hQA, hQC⟩ := HCC.out
    rw [hQA] at hn1
    rw [hQC] at hn2
    have HN := Lib.hid (And.intro hn1 hn2)
    clear hws hn1 hn2 hm1 hm2 hq hA0 hC0 hG hQA hQC hW0 hbel hbx
    have hw64 : ((G : Int) == 0) = false := by rw [beq_eq_false_iff_ne]; omega
    have hw65 : ¬ G = 0 := by omega
    go_region_with (first
        | (go_at_call_of 103 (Value.int IntKind.u64 (QA : Int)); refine (HN.out.1 _).mono ?_; rintro e w1 ⟨r1, rfl, hn1, hb1⟩; obtain ⟨p1, q1, s1, rfl⟩ := hn1.shape; obtain ⟨m0, m1, m2, e0, e1, e2, hbb1⟩ := keep3 HX.out.2 (below_next (Below.refl _ _).drew hb1))
        | (go_at_call_of 103 (Value.int IntKind.u64 (QC : Int)); refine (HN.out.2 _).mono ?_; rintro e w2 ⟨r2, rfl, hn2, hb2⟩; obtain ⟨p2, q2, s2, rfl⟩ := hn2.shape; obtain ⟨t0, t1, t2, g0, g1, g2, hbb2⟩ := keep3 HX.out.2 (below_next hbb1 hb2)))
    have HE := Lib.hid (And.intro hn1 (And.intro hb1 (And.intro hn2 (And.intro hb2 hbb2))))
    clear hn1 hb1 hn2 hb2 hbb2
    go_wp2
    obtain ⟨hn1, hb1, hn2, hb2, hbb2⟩ := HE.out
    obtain ⟨hws, hn1', hn2', hm1, hm2, hq, hA0, hC0, hG⟩ := HA.out
    obtain ⟨hwA, hwC, hQA, hQC⟩ := HCC.out
    obtain ⟨hbel, hbx⟩ := HX.out
    have hbw2 : Below w.heap.size w w2 := below_next' hbel hbb2
    refine bodyPost_ret (v := .agg #[.bool (!(decide (a < 0) == decide (b < 0))), .slice p1 q1 s1, .slice p2 q2 s2]) (by simp [results, Try.results56, go_sem, t0, t1, t2]) rfl ⟨_, rfl, ?_, below_set3 hbw2 (Nat.le_refl _) _ _ _⟩
    refine RatC.other (w := w2) ?_ (hbx.below hbb2) (noLimb_rat _ _ _ _ _ _ _) (grown_set3 _ _ _ _ _)
    rw [hq]
    exact ratC_mk (neg := decide (a < 0) != decide (b < 0)) hA0 hC0 (by rw [hG, hQA]; exact hn1.below hb2) (by rw [hG, hQC]; exact hn2)

set_option maxHeartbeats 1000000 in
theorem fromInt_any (n : Int) (w : World) (a1 : -9223372036854775808 ≤ n) (a2 : n ≤ 9223372036854775807) : Calls Try.prog 57 #[.int .i64 n] w (RatP (quo n 1) w) := by
  have hs := fun W => small_any n 1 W a1 a2 (by omega) (by omega)
  have HS := Lib.hid hs
  clear hs
  go_enter Try.func57, Try.ntmps57
  go_wp2_with fail
  refine (HS.out _).mono ?_
  rintro e w1 ⟨v, rfl, hv, hb⟩
  obtain ⟨an, ln, cn, ad, ld, cd, rfl, hn, hd⟩ := hv
  have hbx := (BoxV.new w w.heap.size 24 (Nat.le_refl _) [.bool false, .slice none 0 0, .slice none 0 0]).below hb
  obtain ⟨⟨k0, k1, k2⟩, f0, f1, f2⟩ := hbx.three
  have HB := Lib.hid (And.intro hb (And.intro hbx (And.intro hn hd)))
  clear hb hbx hn hd
  go_wp2
  obtain ⟨hb, hbx, hn, hd⟩ := HB.out
  have hb0 : Below w.heap.size w w1 := ((Below.refl _ _).alloc (Nat.le_refl _) _).trans (hb.mono (by simp))
  refine bodyPost_ret (v := .agg #[.bool (decide ((quo n 1).num < 0)), .slice an ln cn, .slice ad ld cd]) (by simp [results, Try.results57, go_sem, k0, k1, k2]) rfl ⟨_, rfl, ?_, below_set3 hb0 (Nat.le_refl _) _ _ _⟩
  exact RatC.other (⟨an, ln, cn, ad, ld, cd, rfl, hn, hd⟩ : RatC w1 _ (quo n 1)) hbx (noLimb_rat _ _ _ _ _ _ _) (grown_set3 _ _ _ _ _)

end Go.Proofs.Ytdpiclmjdcjajaa
