/-
  The walk of the law RationalMultiplies. No conditions.
-/
import Derived.Test.YtjnaibeebijkaaaQ14
namespace Go.Proofs.Ytjnaibeebijkaaa
open Go.RowKit Num

/-- What the slots hold in the law's last line. -/
def multipliesL (x y z : Rat) (bq : Bool) : Tmp → Kd := fun t => ([.any, .any, .box 9 x, .box 9 y, .val (.bool true), .boxC 19 z, .val (.bool bq), .boxC 19 z, .val (.bool bq), .any, .any, .any, .any, .any, .any, .any, .any, .any, .any, .any, .any, .any, .any, .any, .any, .any, .any, .any, .any, .rat 9 x, .rat 9 y, .ratC 19 (x * y), .rat 9 x, .rat 9 y, .ratC 19 (x * y), .val (.bool true), .val (.bool true), .ratC 19 z, .ratC 19 z, .val (.bool true), .val (.bool true), .val (.bool true), .val (.bool bq), .val (.bool bq), .val (.bool true), .val (.bool true), .val (.bool true), .val (.bool true), .val (.bool true)] : List Kd).getD t .any

set_option maxRecDepth 100000 in
set_option maxHeartbeats 4000000 in
theorem multiplies_go {na nb : Bool} {an ad bn bd : Option Addr} {n1 s1 n2 s2 m1 t1 m2 t2 k1 k2 : Nat} {x y : Rat} (w : World)
    (hx : RatV w na an n1 s1 ad n2 s2 k1 x) (hy : RatV w nb bn m1 t1 bd m2 t2 k2 y) :
    Calls Try.prog 6 #[.agg #[.bool na, .slice an n1 s1, .slice ad n2 s2], .agg #[.bool nb, .slice bn m1 t1, .slice bd m2 t2]] w (TrueP w) := by
  have HA := Lib.hid (And.intro hx hy)
  clear hx hy
  go_enter Try.func6, Try.ntmps6
  go_wp2_with fail
  obtain ⟨W0, hW0⟩ : ∃ W0, (w.alloc (.cells #[.bool na, .slice an n1 s1, .slice ad n2 s2] 24)).alloc (.cells #[.bool nb, .slice bn m1 t1, .slice bd m2 t2] 24) = W0 := ⟨_, rfl⟩
  have hbw : Below w.heap.size w W0 := by rw [← hW0]; exact below_alloc2 _ _ _
  obtain ⟨hb0, hb1⟩ := alloc2_box w [.bool na, .slice an n1 s1, .slice ad n2 s2] [.bool nb, .slice bn m1 t1, .slice bd m2 t2] 24
  simp only [hW0] at hb0 hb1
  rw [hW0]
  clear hW0
  have HX := Lib.hid (And.intro hbw (And.intro hb0 hb1))
  clear hbw hb0 hb1
  refine (keepRat_any _ _ _ _ _ _ _ W0).mono ?_
  rintro e w1 ⟨rfl, hw1⟩
  have H1 := Lib.hid hw1
  obtain ⟨x3, x4, x5, _⟩ := keep3 HX.out.2.2 hw1
  clear hw1
  by_cases hf1 : n1 ≤ 8 ∧ n2 ≤ 8
  · rw [decide_eq_true hf1]
    have F1 := Lib.hid hf1
    clear hf1
    go_wp2_with fail
    refine (keepRat_any _ _ _ _ _ _ _ w1).mono ?_
    rintro e w2 ⟨rfl, hw2⟩
    have H2 := Lib.hid (below_next H1.out hw2)
    clear hw2 H1 x3 x4 x5
    by_cases hf2 : m1 ≤ 8 ∧ m2 ≤ 8
    · rw [decide_eq_true hf2]
      have F2 := Lib.hid hf2
      clear hf2
      have hrx := ((HA.out.1.le F1.out.1 F1.out.2).below (below_next' HX.out.1 H2.out))
      have hry := ((HA.out.2.le F2.out.1 F2.out.2).below (below_next' HX.out.1 H2.out))
      obtain ⟨z, hz⟩ : ∃ z, x / y = z := ⟨_, rfl⟩
      obtain ⟨bq, hbq⟩ : ∃ bq, decide (y ≠ 0) = bq := ⟨_, rfl⟩
      have hsz : Sz (x / y) 19 := (sz_div hrx.sz hry.sz :)
      have hd1 := div_a hrx.a hry.a (show 8 ≤ 20000 by omega)
      have hd2 := fun (W : World) (hW : Below w2.heap.size w2 W) => refDiv_a (hrx.below hW).a (hry.below hW).a (show 8 ≤ 20000 by omega)
      unfold QuoP at hd1 hd2
      rw [hz] at hsz hd1 hd2
      rw [hbq] at hd1 hd2
      have HD := Lib.hid (And.intro hd1 (And.intro hd2 hsz))
      clear hrx hry hsz hd1 hd2 hz hbq
      obtain ⟨x0, x1, x2, x3, x4, x5⟩ := keep6s HX.out.2.1 HX.out.2.2 H2.out
      go_wp2_with fail
      refine HD.out.1.mono ?_
      rintro e w3 ⟨v, rfl, hv, hw3⟩
      have H3 := Lib.hid (And.intro (below_next H2.out hw3) (And.intro hv hw3))
      obtain ⟨q1, q2, q3, q4, q5, q6, rfl, _⟩ := hv
      clear hw3 x0 x1 x2 x3 x4 x5
      obtain ⟨x0, x1, x2, x3, x4, x5⟩ := keep6s HX.out.2.1 HX.out.2.2 H3.out.1
      have hlt1 : w.heap.size + 1 < w3.heap.size := (HX.out.2.2.below H3.out.1).block.2
      have hlt0 : w.heap.size < w3.heap.size := by omega
      go_wp2_with fail
      obtain ⟨ng, hng⟩ : ∃ ng, decide (z.num < 0) = ng := ⟨_, rfl⟩
      have hb34 := below_alloc1 w3 (.cells #[.bool (decide (z.num < 0)), .slice q1 q2 q3, .slice q4 q5 q6] 24)
      have hbx := BoxV.new w3 w3.heap.size 24 (Nat.le_refl _) [.bool (decide (z.num < 0)), .slice q1 q2 q3, .slice q4 q5 q6]
      have hk5 := boxC_of hbx (H3.out.2.1.below hb34) HD.out.2.2
      refine (HD.out.2.1 _ (below_next H3.out.2.2 hb34)).mono ?_
      rintro e w5 ⟨v, rfl, hv, hw5⟩
      have hk5' := Kd.below (κ := .boxC 19 z) hw5 hk5
      have H5 := Lib.hid (And.intro (below_next (below_next H3.out.1 hb34) hw5) (And.intro hv hk5'))
      have hlt3 : w3.heap.size < w5.heap.size := by
        have h := (hbx.below hw5).block.2
        exact h
      obtain ⟨r1, r2, r3, r4, r5, r6, rfl, _⟩ := hv
      clear hw5 hb34 hbx hk5 hk5' hng x0 x1 x2 x3 x4 x5 hlt1 hlt0
      go_wp2_with fail
      have hb56 := below_alloc1 w5 (.cells #[.bool (decide (z.num < 0)), .slice r1 r2 r3, .slice r4 r5 r6] 24)
      have hbx := BoxV.new w5 w5.heap.size 24 (Nat.le_refl _) [.bool (decide (z.num < 0)), .slice r1 r2 r3, .slice r4 r5 r6]
      have hk7 := boxC_of hbx (H5.out.2.1.below hb56) HD.out.2.2
      have hk5 := Kd.below (κ := .boxC 19 z) hb56 H5.out.2.2
      have hw06 := below_next H5.out.1 hb56
      have hkx := box_of (HX.out.2.1.below hw06) ((HA.out.1.le F1.out.1 F1.out.2).below (below_next' HX.out.1 hw06))
      have hky := box_of (HX.out.2.2.below hw06) ((HA.out.2.le F2.out.1 F2.out.2).below (below_next' HX.out.1 hw06))
      have HK := Lib.hid (And.intro (below_next' HX.out.1 hw06) (And.intro hkx (And.intro hky (And.intro hk5 hk7))))
      clear hkx hky hk5 hk7 hbx hb56 hw06 hlt3
      refine region_flow (Fk (multipliesL x y z bq)) (by rfl) (fun t w w' v hb h => Kd.below hb h) 49 (by rfl) (by kernel_rfl) (by kernel_rfl) [2, 3, 5, 6, 7, 8] (by kernel_rfl) ?h0 (fun t v h => Kd.draw _ _ _ h) ?steps ?fin
      case h0 =>
        intro t ht
        simp only [List.mem_cons, List.not_mem_nil, or_false] at ht
        rcases ht with rfl | rfl | rfl | rfl | rfl | rfl
        · exact HK.out.2.1
        · exact HK.out.2.2.1
        · exact HK.out.2.2.2.1
        · rfl
        · exact HK.out.2.2.2.2
        · rfl
      case steps =>
        exact ⟨fl_load guard_none rfl rfl,
          fl_load guard_none rfl rfl,
          fl_mul guard_none (.inl rfl) (.inl rfl) rfl (by omega),
          fl_load guard_none rfl rfl,
          fl_load guard_none rfl rfl,
          fl_refMul guard_none (.inl rfl) (.inl rfl) rfl (by omega),
          fl_same guard_none rfl rfl rfl (same_iff rfl) (by omega),
          fl_move guard_none rfl,
          fl_loadC (guard_true (s := 36) rfl rfl) rfl rfl,
          fl_loadC (guard_true (s := 36) rfl rfl) rfl rfl,
          fl_same (guard_true (s := 36) rfl rfl) rfl rfl rfl (same_iff rfl) (by omega),
          fl_and guard_none rfl rfl,
          fl_move guard_none rfl,
          fl_move (guard_true (s := 41) rfl rfl) rfl,
          fl_move (guard_true (s := 41) rfl rfl) rfl,
          fl_beql2 (guard_true (s := 41) rfl rfl) rfl rfl rfl (beq_self_eq_true bq),
          fl_and guard_none rfl rfl,
          fl_move guard_none rfl,
          fl_awake (guard_true (s := 46) rfl rfl) rfl,
          fl_and guard_none rfl rfl,
          fl_assign guard_none rfl,
          trivial⟩
      case fin =>
        intro A7 w11 hb11 _ hdf7 hfacts7 _
        have e6 : A7.tmps[4]?.getD undef = .bool true := by rw [← Array.getD_eq_getD_getElem?]; exact hfacts7 20 4 rfl
        have hdd : A7.defers = [] := by rw [hdf7]
        have HR := Lib.hid (below_next' HK.out.1 hb11)
        clear hfacts7 hdf7 hb11
        go_wp2_with fail
        refine bodyPost_ret (v := .bool true) (by simp [results, Try.results6, go_sem, e6]) hdd ⟨rfl, HR.out⟩
    · rw [decide_eq_false hf2]
      go_wp2
      go_ret
      exact ⟨rfl, below_next' HX.out.1 H2.out⟩
  · rw [decide_eq_false hf1]
    go_wp2
    go_ret
    exact ⟨rfl, below_next' HX.out.1 H1.out⟩

end Go.Proofs.Ytjnaibeebijkaaa
