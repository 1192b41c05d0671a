/-
  The walk of the law RationalField. No conditions.
-/
import Derived.Test.YtjnaibeebijkaaaKeep
namespace Go.Proofs.Ytjnaibeebijkaaa
open Go.RowKit Num

theorem box_of {W : World} {B g t : Nat} {neg : Bool} {an ad : Option Addr} {n cn m cd : Nat} {q : Rat} (hb : BoxV W B g t [.bool neg, .slice an n cn, .slice ad m cd]) (hv : RatV W neg an n cn ad m cd 8 q) : (Kd.box 9 q).holds W (.pointer (some ⟨g, 0, none⟩)) := by
  obtain ⟨⟨c0, c1, c2⟩, _⟩ := hb.three
  exact ⟨g, _, _, _, rfl, c0, c1, c2, hv.a.le (by omega), hv.sz⟩
theorem boxC_of {W : World} {B g t k : Nat} {a b c : Value} {q : Rat} (hb : BoxV W B g t [a, b, c]) (hv : RatC W (.agg #[a, b, c]) q) (hs : Sz q k) : (Kd.boxC k q).holds W (.pointer (some ⟨g, 0, none⟩)) := by
  obtain ⟨⟨c0, c1, c2⟩, _⟩ := hb.three
  exact ⟨g, _, _, _, rfl, c0, c1, c2, hv, hs⟩
theorem same_iff {p q : Rat} (h : p = q) : true = true ↔ p = q := ⟨fun _ => h, fun _ => rfl⟩
theorem field_div {x y : Rat} (hy : y ≠ 0) : x / y * y = x := Rat.div_mul_cancel hy

/-- What the slots hold in the test of the quotient. -/
def fieldQ (x y : Rat) : Tmp → Kd := fun t => ([.any, .any, .any, .box 9 x, .box 9 y, .any, .any, .any, .any, .boxC 19 (x / y), .val (.bool true), .any, .any, .any, .any, .any, .any, .any, .any, .any, .any, .any, .any, .any, .any, .any, .any, .any, .any, .any, .any, .any, .any, .any, .any, .val (.bool true), .val (.bool false), .val (.bool false), .ratC 19 (x / y), .rat 9 y, .ratC 29 ((x / y) * y), .rat 9 x, .ratC 9 x, .val (.bool true), .val (.bool false), .val (.bool false)] : List Kd).getD t .any

/-- What the slots hold in the last line of the law. -/
def fieldL (x y z : Rat) : Tmp → Kd := fun t => ([.any, .any, .any, .box 9 x, .box 9 y, .box 9 z, .val (.bool true), .boxC 1 0, .boxC 1 1, .any, .any, .any, .any, .any, .any, .any, .any, .any, .any, .any, .any, .any, .any, .any, .any, .any, .any, .any, .any, .any, .any, .any, .any, .any, .any, .any, .any, .any, .any, .any, .any, .any, .any, .any, .any, .any, .rat 9 x, .rat 9 y, .ratC 19 (x + y), .rat 9 z, .ratC 29 ((x + y) + z), .rat 9 x, .rat 9 y, .rat 9 z, .ratC 19 (y + z), .ratC 29 (x + (y + z)), .val (.bool true), .val (.bool true), .rat 9 x, .rat 9 y, .ratC 19 (x * y), .rat 9 z, .ratC 29 ((x * y) * z), .rat 9 x, .rat 9 y, .rat 9 z, .ratC 19 (y * z), .ratC 29 (x * (y * z)), .val (.bool true), .val (.bool true), .val (.bool true), .rat 9 x, .rat 9 y, .ratC 19 (x + y), .rat 9 y, .rat 9 x, .ratC 19 (y + x), .val (.bool true), .val (.bool true), .val (.bool true), .rat 9 x, .rat 9 y, .ratC 19 (x * y), .rat 9 y, .rat 9 x, .ratC 19 (y * x), .val (.bool true), .val (.bool true), .val (.bool true), .rat 9 x, .rat 9 y, .rat 9 z, .ratC 19 (y + z), .ratC 29 (x * (y + z)), .rat 9 x, .rat 9 y, .ratC 19 (x * y), .rat 9 x, .rat 9 z, .ratC 19 (x * z), .ratC 39 ((x * y) + (x * z)), .val (.bool true), .val (.bool true), .val (.bool true), .rat 9 x, .rat 9 x, .ratC 19 (x - x), .ratC 1 0, .val (.bool true), .val (.bool true), .val (.bool true), .rat 9 x, .ratC 1 0, .ratC 11 (x + 0), .rat 9 x, .ratC 9 x, .val (.bool true), .val (.bool true), .val (.bool true), .rat 9 x, .ratC 1 1, .ratC 11 (x * 1), .rat 9 x, .ratC 9 x, .val (.bool true), .val (.bool true), .val (.bool true), .val (.bool true), .val (.bool true)] : List Kd).getD t .any

theorem quo_zero : quo 0 1 = 0 := rat_zero_num _ _
theorem quo_one : quo 1 1 = 1 := by rw [quo_mk (by omega)]; rfl

set_option maxRecDepth 100000 in
set_option maxHeartbeats 4000000 in
theorem field_go {na nb nc : Bool} {an ad bn bd cn cd : Option Addr} {n1 s1 n2 s2 m1 t1 m2 t2 o1 r1 o2 r2 k1 k2 k3 : Nat} {x y z : Rat} (w : World)
    (hx : RatV w na an n1 s1 ad n2 s2 k1 x) (hy : RatV w nb bn m1 t1 bd m2 t2 k2 y) (hz : RatV w nc cn o1 r1 cd o2 r2 k3 z) :
    Calls Try.prog 10 #[.agg #[.bool na, .slice an n1 s1, .slice ad n2 s2], .agg #[.bool nb, .slice bn m1 t1, .slice bd m2 t2], .agg #[.bool nc, .slice cn o1 r1, .slice cd o2 r2]] w (TrueP w) := by
  have HA := Lib.hid (And.intro hx (And.intro hy hz))
  clear hx hy hz
  go_enter Try.func10, Try.ntmps10
  go_wp2_with fail
  obtain ⟨W0, hW0⟩ : ∃ W0, ((w.alloc (.cells #[.bool na, .slice an n1 s1, .slice ad n2 s2] 24)).alloc (.cells #[.bool nb, .slice bn m1 t1, .slice bd m2 t2] 24)).alloc (.cells #[.bool nc, .slice cn o1 r1, .slice cd o2 r2] 24) = W0 := ⟨_, rfl⟩
  have hbw : Below w.heap.size w W0 := by rw [← hW0]; exact below_alloc3 _ _ _ _
  obtain ⟨hb0, hb1, hb2⟩ := alloc3_box w [.bool na, .slice an n1 s1, .slice ad n2 s2] [.bool nb, .slice bn m1 t1, .slice bd m2 t2] [.bool nc, .slice cn o1 r1, .slice cd o2 r2] 24
  simp only [hW0] at hb0 hb1 hb2
  rw [hW0]
  clear hW0
  have HX := Lib.hid (And.intro hbw (And.intro hb0 (And.intro hb1 hb2)))
  clear hbw hb0 hb1 hb2
  refine (keepRat_any _ _ _ _ _ _ _ W0).mono ?_
  rintro e w1 ⟨rfl, hw1⟩
  have H1 := Lib.hid hw1
  obtain ⟨x0, x1, x2, x3, x4, x5⟩ := keep6s HX.out.2.2.1 HX.out.2.2.2 hw1
  clear hw1
  by_cases hf1 : n1 ≤ 8 ∧ n2 ≤ 8
  · rw [decide_eq_true hf1]
    have F1 := Lib.hid hf1
    clear hf1
    go_wp2_with fail
    refine (keepRat_any _ _ _ _ _ _ _ w1).mono ?_
    rintro e w2 ⟨rfl, hw2⟩
    have H2 := Lib.hid (below_next H1.out hw2)
    clear hw2 H1 x0 x1 x2 x3 x4 x5
    obtain ⟨x3, x4, x5, _⟩ := keep3 HX.out.2.2.2 H2.out
    by_cases hf2 : m1 ≤ 8 ∧ m2 ≤ 8
    · rw [decide_eq_true hf2]
      have F2 := Lib.hid hf2
      clear hf2
      go_wp2_with fail
      refine (keepRat_any _ _ _ _ _ _ _ w2).mono ?_
      rintro e w3 ⟨rfl, hw3⟩
      have H3 := Lib.hid (below_next H2.out hw3)
      clear hw3 H2 x3 x4 x5
      by_cases hf3 : o1 ≤ 8 ∧ o2 ≤ 8
      · rw [decide_eq_true hf3]
        have F3 := Lib.hid hf3
        clear hf3
        go_wp2_with fail
        have hz0 := fromInt_any 0 w3 (by omega) (by omega)
        rw [quo_zero] at hz0
        refine hz0.mono ?_
        rintro e w4 ⟨v0, rfl, hv0, hw4⟩
        have H4 := Lib.hid (And.intro (below_next H3.out hw4) hv0)
        obtain ⟨z1, z2, z3, z4, z5, z6, rfl, _⟩ := hv0
        clear hw4 H3 hz0
        go_wp2_with fail
        have hz1 := fromInt_any 1 w4 (by omega) (by omega)
        rw [quo_one] at hz1
        refine hz1.mono ?_
        rintro e w5 ⟨v1, rfl, hv1, hw5⟩
        have H5 := Lib.hid (And.intro (below_next H4.out.1 hw5) (And.intro (H4.out.2.below hw5) hv1))
        obtain ⟨o1', o2', o3, o4, o5, o6, rfl, _⟩ := hv1
        clear hw5 H4 hz1
        obtain ⟨x0, x1, x2, x3, x4, x5⟩ := keep6s HX.out.2.1 HX.out.2.2.1 H5.out.1
        have hlt1 : w.heap.size + 1 < w5.heap.size := (HX.out.2.2.1.below H5.out.1).block.2
        have hlt0 : w.heap.size < w5.heap.size := by omega
        go_wp2_with fail
        have hb56 := below_alloc2 w5 (.cells #[.bool false, .slice z1 z2 z3, .slice z4 z5 z6] 24) (.cells #[.bool false, .slice o1' o2' o3, .slice o4 o5 o6] 24)
        obtain ⟨hbz, hbo⟩ := alloc2_box w5 [.bool false, .slice z1 z2 z3, .slice z4 z5 z6] [.bool false, .slice o1' o2' o3, .slice o4 o5 o6] 24
        have hkz := boxC_of (k := 1) hbz (H5.out.2.1.below hb56) (sz_of_small (by decide) (by decide))
        have hko := boxC_of (k := 1) hbo (H5.out.2.2.below hb56) (sz_of_small (by decide) (by decide))
        have hw6 : Below W0.heap.size W0 _ := below_next H5.out.1 hb56
        have hkx := box_of (HX.out.2.1.below hw6) ((HA.out.1.le F1.out.1 F1.out.2).below (below_next' HX.out.1 hw6))
        have hky := box_of (HX.out.2.2.1.below hw6) ((HA.out.2.1.le F2.out.1 F2.out.2).below (below_next' HX.out.1 hw6))
        have hkz' := box_of (HX.out.2.2.2.below hw6) ((HA.out.2.2.le F3.out.1 F3.out.2).below (below_next' HX.out.1 hw6))
        have hrv := (HA.out.2.1.le F2.out.1 F2.out.2).below (below_next' HX.out.1 hw6)
        have hrx := (HA.out.1.le F1.out.1 F1.out.2).below (below_next' HX.out.1 hw6)
        have hlt2 : w.heap.size + 1 < w5.heap.size + 2 := by omega
        generalize hW6 : (w5.alloc (.cells #[.bool false, .slice z1 z2 z3, .slice z4 z5 z6] 24)).alloc (.cells #[.bool false, .slice o1' o2' o3, .slice o4 o5 o6] 24) = W6 at *
        have hlt3 : w5.heap.size + 2 = W6.heap.size := by rw [← hW6]; simp
        have HK := Lib.hid (And.intro (below_next' HX.out.1 hw6) (And.intro hkx (And.intro hky (And.intro hkz' (And.intro hkz (And.intro hko (And.intro hrx hrv)))))))
        have H6 := Lib.hid hw6
        clear hb56 hbz hbo hkz hko hw6 hkx hky hkz' H5 x0 x1 x2 x3 x4 x5 hrx hW6 hlt0 hlt1
        refine (sign_any _ 8 y W6 hrv.a).mono ?_
        rintro e w7 ⟨rfl, hw7⟩
        have H7 := Lib.hid hw7
        clear hrv hw7
        obtain ⟨sy, hsy⟩ : ∃ sy, sgn y = sy := ⟨_, rfl⟩
        rw [hsy]
        have HS := Lib.hid hsy
        clear hsy
        by_cases h0 : sy = 0
        · have hb : (sy != 0) = false := by simp [h0]
          clear h0
          go_wp2_with fail
          refine region_flow (Fk (fieldL x y z)) (by rfl) (fun t w w' v hb h => Kd.below hb h) 129 (by rfl) (by kernel_rfl) (by kernel_rfl) [3, 4, 5, 7, 8] (by kernel_rfl) ?h0 (fun t v h => Kd.draw _ _ _ h) ?steps ?fin
          case h0 =>
            intro t ht
            simp only [List.mem_cons, List.not_mem_nil, or_false] at ht
            rcases ht with rfl | rfl | rfl | rfl | rfl
            · exact Kd.below (κ := .box 9 x) H7.out HK.out.2.1
            · exact Kd.below (κ := .box 9 y) H7.out HK.out.2.2.1
            · exact Kd.below (κ := .box 9 z) H7.out HK.out.2.2.2.1
            · exact Kd.below (κ := .boxC 1 0) H7.out HK.out.2.2.2.2.1
            · exact Kd.below (κ := .boxC 1 1) H7.out HK.out.2.2.2.2.2.1
          case steps =>
            exact ⟨fl_load guard_none rfl rfl,
              fl_load guard_none rfl rfl,
              fl_add guard_none (.inl rfl) (.inl rfl) rfl (by omega),
              fl_load guard_none rfl rfl,
              fl_add guard_none (.inr rfl) (.inl rfl) rfl (by omega),
              fl_load guard_none rfl rfl,
              fl_load guard_none rfl rfl,
              fl_load guard_none rfl rfl,
              fl_add guard_none (.inl rfl) (.inl rfl) rfl (by omega),
              fl_add guard_none (.inl rfl) (.inr rfl) rfl (by omega),
              fl_same guard_none rfl rfl rfl (same_iff (Rat.add_assoc x y z)) (by omega),
              fl_move guard_none rfl,
              fl_load (guard_true (s := 57) rfl rfl) rfl rfl,
              fl_load (guard_true (s := 57) rfl rfl) rfl rfl,
              fl_mul (guard_true (s := 57) rfl rfl) (.inl rfl) (.inl rfl) rfl (by omega),
              fl_load (guard_true (s := 57) rfl rfl) rfl rfl,
              fl_mul (guard_true (s := 57) rfl rfl) (.inr rfl) (.inl rfl) rfl (by omega),
              fl_load (guard_true (s := 57) rfl rfl) rfl rfl,
              fl_load (guard_true (s := 57) rfl rfl) rfl rfl,
              fl_load (guard_true (s := 57) rfl rfl) rfl rfl,
              fl_mul (guard_true (s := 57) rfl rfl) (.inl rfl) (.inl rfl) rfl (by omega),
              fl_mul (guard_true (s := 57) rfl rfl) (.inl rfl) (.inr rfl) rfl (by omega),
              fl_same (guard_true (s := 57) rfl rfl) rfl rfl rfl (same_iff (Rat.mul_assoc x y z)) (by omega),
              fl_and guard_none rfl rfl,
              fl_move guard_none rfl,
              fl_load (guard_true (s := 70) rfl rfl) rfl rfl,
              fl_load (guard_true (s := 70) rfl rfl) rfl rfl,
              fl_add (guard_true (s := 70) rfl rfl) (.inl rfl) (.inl rfl) rfl (by omega),
              fl_load (guard_true (s := 70) rfl rfl) rfl rfl,
              fl_load (guard_true (s := 70) rfl rfl) rfl rfl,
              fl_add (guard_true (s := 70) rfl rfl) (.inl rfl) (.inl rfl) rfl (by omega),
              fl_same (guard_true (s := 70) rfl rfl) rfl rfl rfl (same_iff (Rat.add_comm x y)) (by omega),
              fl_and guard_none rfl rfl,
              fl_move guard_none rfl,
              fl_load (guard_true (s := 79) rfl rfl) rfl rfl,
              fl_load (guard_true (s := 79) rfl rfl) rfl rfl,
              fl_mul (guard_true (s := 79) rfl rfl) (.inl rfl) (.inl rfl) rfl (by omega),
              fl_load (guard_true (s := 79) rfl rfl) rfl rfl,
              fl_load (guard_true (s := 79) rfl rfl) rfl rfl,
              fl_mul (guard_true (s := 79) rfl rfl) (.inl rfl) (.inl rfl) rfl (by omega),
              fl_same (guard_true (s := 79) rfl rfl) rfl rfl rfl (same_iff (Rat.mul_comm x y)) (by omega),
              fl_and guard_none rfl rfl,
              fl_move guard_none rfl,
              fl_load (guard_true (s := 88) rfl rfl) rfl rfl,
              fl_load (guard_true (s := 88) rfl rfl) rfl rfl,
              fl_load (guard_true (s := 88) rfl rfl) rfl rfl,
              fl_add (guard_true (s := 88) rfl rfl) (.inl rfl) (.inl rfl) rfl (by omega),
              fl_mul (guard_true (s := 88) rfl rfl) (.inl rfl) (.inr rfl) rfl (by omega),
              fl_load (guard_true (s := 88) rfl rfl) rfl rfl,
              fl_load (guard_true (s := 88) rfl rfl) rfl rfl,
              fl_mul (guard_true (s := 88) rfl rfl) (.inl rfl) (.inl rfl) rfl (by omega),
              fl_load (guard_true (s := 88) rfl rfl) rfl rfl,
              fl_load (guard_true (s := 88) rfl rfl) rfl rfl,
              fl_mul (guard_true (s := 88) rfl rfl) (.inl rfl) (.inl rfl) rfl (by omega),
              fl_add (guard_true (s := 88) rfl rfl) (.inr rfl) (.inr rfl) rfl (by omega),
              fl_same (guard_true (s := 88) rfl rfl) rfl rfl rfl (same_iff (Rat.mul_add x y z)) (by omega),
              fl_and guard_none rfl rfl,
              fl_move guard_none rfl,
              fl_load (guard_true (s := 103) rfl rfl) rfl rfl,
              fl_load (guard_true (s := 103) rfl rfl) rfl rfl,
              fl_sub (guard_true (s := 103) rfl rfl) (.inl rfl) (.inl rfl) rfl (by omega),
              fl_loadC (guard_true (s := 103) rfl rfl) rfl rfl,
              fl_same (guard_true (s := 103) rfl rfl) rfl rfl rfl (same_iff (Rat.sub_self (a := x))) (by omega),
              fl_and guard_none rfl rfl,
              fl_move guard_none rfl,
              fl_load (guard_true (s := 110) rfl rfl) rfl rfl,
              fl_loadC (guard_true (s := 110) rfl rfl) rfl rfl,
              fl_add (guard_true (s := 110) rfl rfl) (.inl rfl) (.inr rfl) rfl (by omega),
              fl_load (guard_true (s := 110) rfl rfl) rfl rfl,
              fl_canon (guard_true (s := 110) rfl rfl) (.inl rfl) rfl (by omega),
              fl_same (guard_true (s := 110) rfl rfl) rfl rfl rfl (same_iff (Rat.add_zero x)) (by omega),
              fl_and guard_none rfl rfl,
              fl_move guard_none rfl,
              fl_load (guard_true (s := 118) rfl rfl) rfl rfl,
              fl_loadC (guard_true (s := 118) rfl rfl) rfl rfl,
              fl_mul (guard_true (s := 118) rfl rfl) (.inl rfl) (.inr rfl) rfl (by omega),
              fl_load (guard_true (s := 118) rfl rfl) rfl rfl,
              fl_canon (guard_true (s := 118) rfl rfl) (.inl rfl) rfl (by omega),
              fl_same (guard_true (s := 118) rfl rfl) rfl rfl rfl (same_iff (Rat.mul_one x)) (by omega),
              fl_and guard_none rfl rfl,
              fl_move guard_none rfl,
              fl_awake (guard_true (s := 126) rfl rfl) rfl,
              fl_and guard_none rfl rfl,
              fl_assign guard_none rfl,
              trivial⟩
          case fin =>
            intro A7 w11 hb11 _ hdf7 hfacts7 _
            have e6 : A7.tmps[6]?.getD undef = .bool true := by rw [← Array.getD_eq_getD_getElem?]; exact hfacts7 83 6 rfl
            have hdd : A7.defers = [] := by rw [hdf7]
            have HR := Lib.hid (below_next' (below_next' HK.out.1 H7.out) hb11)
            clear hfacts7 hdf7 hb11
            go_wp2_with fail
            refine bodyPost_ret (v := .bool true) (by simp [results, Try.results10, go_sem, e6]) hdd ⟨rfl, HR.out⟩
        · have hb : (sy != 0) = true := by simp [h0]
          have hy : y ≠ 0 := fun e => h0 (HS.out.symm.trans ((sgn_zero y).2 e))
          have HY := Lib.hid hy
          have h67 := below_next H6.out H7.out
          obtain ⟨x0, x1, x2, x3, x4, x5⟩ := keep6s HX.out.2.1 HX.out.2.2.1 h67
          clear h0 hy h67
          go_wp2_with fail
          refine (div_a ((HK.out.2.2.2.2.2.2.1.below H7.out).a) ((HK.out.2.2.2.2.2.2.2.below H7.out).a) (by omega)).mono ?_
          rintro e w8 ⟨vq, rfl, hvq, hw8⟩
          rw [decide_eq_true HY.out]
          have H8 := Lib.hid (And.intro (below_next H7.out hw8) hvq)
          obtain ⟨q1, q2, q3, q4, q5, q6, rfl, _⟩ := hvq
          clear hw8 x0 x1 x2 x3 x4 x5
          go_wp2_with fail
          have hsx : Sz x 9 := HK.out.2.2.2.2.2.2.1.sz
          have hsy : Sz y 9 := HK.out.2.2.2.2.2.2.2.sz
          have hsq : Sz (x / y) 19 := (sz_div hsx hsy :)
          have hrq := H8.out.2.below (below_alloc1 w8 (.cells #[.bool (decide ((x / y).num < 0)), .slice q1 q2 q3, .slice q4 q5 q6] 24))
          have hbx := BoxV.new w8 w8.heap.size 24 (Nat.le_refl _) [.bool (decide ((x / y).num < 0)), .slice q1 q2 q3, .slice q4 q5 q6]
          have hbq := boxC_of hbx hrq hsq
          clear hsx hsy hsq hrq hbx
          have h69 := below_next H8.out.1 (below_alloc1 w8 (.cells #[.bool (decide ((x / y).num < 0)), .slice q1 q2 q3, .slice q4 q5 q6] 24))
          have HZ := Lib.hid (And.intro hbq h69)
          clear hbq h69
          refine region_flow (Fk (fieldQ x y)) (by rfl) (fun t w w' v hb h => Kd.below hb h) 129 (by rfl) (by kernel_rfl) (by kernel_rfl) [3, 4, 9, 10] (by kernel_rfl) ?h0 (fun t v h => Kd.draw _ _ _ h) ?steps ?fin
          case h0 =>
            intro t ht
            simp only [List.mem_cons, List.not_mem_nil, or_false] at ht
            rcases ht with rfl | rfl | rfl | rfl
            · exact Kd.below (κ := .box 9 x) HZ.out.2 HK.out.2.1
            · exact Kd.below (κ := .box 9 y) HZ.out.2 HK.out.2.2.1
            · exact HZ.out.1
            · rfl
          case steps =>
            exact ⟨fl_move guard_none rfl,
              fl_not guard_none rfl rfl,
              fl_move guard_none rfl,
              fl_loadC (guard_true (s := 37) rfl rfl) rfl rfl,
              fl_load (guard_true (s := 37) rfl rfl) rfl rfl,
              fl_mul (guard_true (s := 37) rfl rfl) (.inr rfl) (.inl rfl) rfl (by omega),
              fl_load (guard_true (s := 37) rfl rfl) rfl rfl,
              fl_canon (guard_true (s := 37) rfl rfl) (.inl rfl) rfl (by omega),
              fl_same (guard_true (s := 37) rfl rfl) rfl rfl rfl (same_iff (field_div HY.out)) (by omega),
              fl_not (guard_true (s := 37) rfl rfl) rfl rfl,
              fl_or guard_none rfl rfl,
              trivial⟩
          case fin =>
            intro A6 w10 hb10 hsz hdf hfacts hout
            have e45 : A6.tmps.getD 45 undef = .bool false := hfacts 10 45 rfl
            have e3 : A6.tmps.getD 3 undef = .pointer (some ⟨w.heap.size, 0, none⟩) := hout 3 (free_of (by kernel_rfl))
            have e4 : A6.tmps.getD 4 undef = .pointer (some ⟨w.heap.size + 1, 0, none⟩) := hout 4 (free_of (by kernel_rfl))
            have e5 : A6.tmps.getD 5 undef = .pointer (some ⟨w.heap.size + 1 + 1, 0, none⟩) := hout 5 (free_of (by kernel_rfl))
            have e7 : A6.tmps.getD 7 undef = .pointer (some ⟨w5.heap.size, 0, none⟩) := hout 7 (free_of (by kernel_rfl))
            have e8 : A6.tmps.getD 8 undef = .pointer (some ⟨w5.heap.size + 1, 0, none⟩) := hout 8 (free_of (by kernel_rfl))
            have hsz' : A6.tmps.size = 129 := hsz
            have HQ := Lib.hid (And.intro e3 (And.intro e4 (And.intro e5 (And.intro e7 (And.intro e8 (And.intro hsz' (And.intro hdf hb10)))))))
            clear hfacts hout hsz hsz' hdf hb10 e3 e4 e5 e7 e8
            go_wp2_with fail
            refine wp_cond_false e45 (wp_skip ?_)
            go_wp2_with fail
            refine region_flow (Fk (fieldL x y z)) (by rfl) (fun t w w' v hb h => Kd.below hb h) 129 HQ.out.2.2.2.2.2.1 (by kernel_rfl) (by kernel_rfl) [3, 4, 5, 7, 8] (by kernel_rfl) ?h0 (fun t v h => Kd.draw _ _ _ h) ?steps ?fin
            case h0 =>
              intro t ht
              simp only [List.mem_cons, List.not_mem_nil, or_false] at ht
              rcases ht with rfl | rfl | rfl | rfl | rfl
              · (show (Kd.box 9 x).holds w10 _; rw [HQ.out.1]; exact Kd.below (κ := .box 9 x) (below_next HZ.out.2 HQ.out.2.2.2.2.2.2.2) HK.out.2.1)
              · (show (Kd.box 9 y).holds w10 _; rw [HQ.out.2.1]; exact Kd.below (κ := .box 9 y) (below_next HZ.out.2 HQ.out.2.2.2.2.2.2.2) HK.out.2.2.1)
              · (show (Kd.box 9 z).holds w10 _; rw [HQ.out.2.2.1]; exact Kd.below (κ := .box 9 z) (below_next HZ.out.2 HQ.out.2.2.2.2.2.2.2) HK.out.2.2.2.1)
              · (show (Kd.boxC 1 0).holds w10 _; rw [HQ.out.2.2.2.1]; exact Kd.below (κ := .boxC 1 0) (below_next HZ.out.2 HQ.out.2.2.2.2.2.2.2) HK.out.2.2.2.2.1)
              · (show (Kd.boxC 1 1).holds w10 _; rw [HQ.out.2.2.2.2.1]; exact Kd.below (κ := .boxC 1 1) (below_next HZ.out.2 HQ.out.2.2.2.2.2.2.2) HK.out.2.2.2.2.2.1)
            case steps =>
              exact ⟨fl_load guard_none rfl rfl,
                fl_load guard_none rfl rfl,
                fl_add guard_none (.inl rfl) (.inl rfl) rfl (by omega),
                fl_load guard_none rfl rfl,
                fl_add guard_none (.inr rfl) (.inl rfl) rfl (by omega),
                fl_load guard_none rfl rfl,
                fl_load guard_none rfl rfl,
                fl_load guard_none rfl rfl,
                fl_add guard_none (.inl rfl) (.inl rfl) rfl (by omega),
                fl_add guard_none (.inl rfl) (.inr rfl) rfl (by omega),
                fl_same guard_none rfl rfl rfl (same_iff (Rat.add_assoc x y z)) (by omega),
                fl_move guard_none rfl,
                fl_load (guard_true (s := 57) rfl rfl) rfl rfl,
                fl_load (guard_true (s := 57) rfl rfl) rfl rfl,
                fl_mul (guard_true (s := 57) rfl rfl) (.inl rfl) (.inl rfl) rfl (by omega),
                fl_load (guard_true (s := 57) rfl rfl) rfl rfl,
                fl_mul (guard_true (s := 57) rfl rfl) (.inr rfl) (.inl rfl) rfl (by omega),
                fl_load (guard_true (s := 57) rfl rfl) rfl rfl,
                fl_load (guard_true (s := 57) rfl rfl) rfl rfl,
                fl_load (guard_true (s := 57) rfl rfl) rfl rfl,
                fl_mul (guard_true (s := 57) rfl rfl) (.inl rfl) (.inl rfl) rfl (by omega),
                fl_mul (guard_true (s := 57) rfl rfl) (.inl rfl) (.inr rfl) rfl (by omega),
                fl_same (guard_true (s := 57) rfl rfl) rfl rfl rfl (same_iff (Rat.mul_assoc x y z)) (by omega),
                fl_and guard_none rfl rfl,
                fl_move guard_none rfl,
                fl_load (guard_true (s := 70) rfl rfl) rfl rfl,
                fl_load (guard_true (s := 70) rfl rfl) rfl rfl,
                fl_add (guard_true (s := 70) rfl rfl) (.inl rfl) (.inl rfl) rfl (by omega),
                fl_load (guard_true (s := 70) rfl rfl) rfl rfl,
                fl_load (guard_true (s := 70) rfl rfl) rfl rfl,
                fl_add (guard_true (s := 70) rfl rfl) (.inl rfl) (.inl rfl) rfl (by omega),
                fl_same (guard_true (s := 70) rfl rfl) rfl rfl rfl (same_iff (Rat.add_comm x y)) (by omega),
                fl_and guard_none rfl rfl,
                fl_move guard_none rfl,
                fl_load (guard_true (s := 79) rfl rfl) rfl rfl,
                fl_load (guard_true (s := 79) rfl rfl) rfl rfl,
                fl_mul (guard_true (s := 79) rfl rfl) (.inl rfl) (.inl rfl) rfl (by omega),
                fl_load (guard_true (s := 79) rfl rfl) rfl rfl,
                fl_load (guard_true (s := 79) rfl rfl) rfl rfl,
                fl_mul (guard_true (s := 79) rfl rfl) (.inl rfl) (.inl rfl) rfl (by omega),
                fl_same (guard_true (s := 79) rfl rfl) rfl rfl rfl (same_iff (Rat.mul_comm x y)) (by omega),
                fl_and guard_none rfl rfl,
                fl_move guard_none rfl,
                fl_load (guard_true (s := 88) rfl rfl) rfl rfl,
                fl_load (guard_true (s := 88) rfl rfl) rfl rfl,
                fl_load (guard_true (s := 88) rfl rfl) rfl rfl,
                fl_add (guard_true (s := 88) rfl rfl) (.inl rfl) (.inl rfl) rfl (by omega),
                fl_mul (guard_true (s := 88) rfl rfl) (.inl rfl) (.inr rfl) rfl (by omega),
                fl_load (guard_true (s := 88) rfl rfl) rfl rfl,
                fl_load (guard_true (s := 88) rfl rfl) rfl rfl,
                fl_mul (guard_true (s := 88) rfl rfl) (.inl rfl) (.inl rfl) rfl (by omega),
                fl_load (guard_true (s := 88) rfl rfl) rfl rfl,
                fl_load (guard_true (s := 88) rfl rfl) rfl rfl,
                fl_mul (guard_true (s := 88) rfl rfl) (.inl rfl) (.inl rfl) rfl (by omega),
                fl_add (guard_true (s := 88) rfl rfl) (.inr rfl) (.inr rfl) rfl (by omega),
                fl_same (guard_true (s := 88) rfl rfl) rfl rfl rfl (same_iff (Rat.mul_add x y z)) (by omega),
                fl_and guard_none rfl rfl,
                fl_move guard_none rfl,
                fl_load (guard_true (s := 103) rfl rfl) rfl rfl,
                fl_load (guard_true (s := 103) rfl rfl) rfl rfl,
                fl_sub (guard_true (s := 103) rfl rfl) (.inl rfl) (.inl rfl) rfl (by omega),
                fl_loadC (guard_true (s := 103) rfl rfl) rfl rfl,
                fl_same (guard_true (s := 103) rfl rfl) rfl rfl rfl (same_iff (Rat.sub_self (a := x))) (by omega),
                fl_and guard_none rfl rfl,
                fl_move guard_none rfl,
                fl_load (guard_true (s := 110) rfl rfl) rfl rfl,
                fl_loadC (guard_true (s := 110) rfl rfl) rfl rfl,
                fl_add (guard_true (s := 110) rfl rfl) (.inl rfl) (.inr rfl) rfl (by omega),
                fl_load (guard_true (s := 110) rfl rfl) rfl rfl,
                fl_canon (guard_true (s := 110) rfl rfl) (.inl rfl) rfl (by omega),
                fl_same (guard_true (s := 110) rfl rfl) rfl rfl rfl (same_iff (Rat.add_zero x)) (by omega),
                fl_and guard_none rfl rfl,
                fl_move guard_none rfl,
                fl_load (guard_true (s := 118) rfl rfl) rfl rfl,
                fl_loadC (guard_true (s := 118) rfl rfl) rfl rfl,
                fl_mul (guard_true (s := 118) rfl rfl) (.inl rfl) (.inr rfl) rfl (by omega),
                fl_load (guard_true (s := 118) rfl rfl) rfl rfl,
                fl_canon (guard_true (s := 118) rfl rfl) (.inl rfl) rfl (by omega),
                fl_same (guard_true (s := 118) rfl rfl) rfl rfl rfl (same_iff (Rat.mul_one x)) (by omega),
                fl_and guard_none rfl rfl,
                fl_move guard_none rfl,
                fl_awake (guard_true (s := 126) rfl rfl) rfl,
                fl_and guard_none rfl rfl,
                fl_assign guard_none rfl,
                trivial⟩
            case fin =>
              intro A7 w11 hb11 _ hdf7 hfacts7 _
              have e6 : A7.tmps[6]?.getD undef = .bool true := by rw [← Array.getD_eq_getD_getElem?]; exact hfacts7 83 6 rfl
              have hdd : A7.defers = [] := by rw [hdf7]; rw [HQ.out.2.2.2.2.2.2.1]
              have HR := Lib.hid (below_next' (below_next' (below_next' HK.out.1 HZ.out.2) HQ.out.2.2.2.2.2.2.2) hb11)
              clear hfacts7 hdf7 hb11
              go_wp2_with fail
              refine bodyPost_ret (v := .bool true) (by simp [results, Try.results10, go_sem, e6]) hdd ⟨rfl, HR.out⟩
      · rw [decide_eq_false hf3]
        go_wp2
        go_ret
        exact ⟨rfl, below_next' HX.out.1 H3.out⟩
    · rw [decide_eq_false hf2]
      go_wp2
      go_ret
      exact ⟨rfl, below_next' HX.out.1 H2.out⟩
  · rw [decide_eq_false hf1]
    go_wp2
    go_ret
    exact ⟨rfl, below_next' HX.out.1 H1.out⟩

end Go.Proofs.Ytjnaibeebijkaaa
