/-
  The walk of the law RationalCompares. No conditions.
-/
import Derived.Test.YtjnaibeebijkaaaQ11
namespace Go.Proofs.Ytjnaibeebijkaaa
open Go.RowKit Num

/-- What the slots hold in the law's last line. -/
def comparesL (x y : Rat) : Tmp → Kd := fun t => ([.any, .any, .box 9 x, .box 9 y, .val (.bool true), .any, .any, .any, .any, .any, .any, .any, .any, .rat 9 x, .ratC 9 x, .rat 9 x, .ratC 9 x, .val (.bool true), .val (.bool true), .rat 9 x, .val (.bool (decide (x.den = 1))), .rat 9 x, .val (.bool (decide (x.den = 1))), .val (.bool true), .val (.bool true), .val (.bool true), .rat 9 x, .val (.int .i64 (sgn x)), .rat 9 x, .val (.int .i64 (sgn x)), .val (.bool true), .val (.bool true), .val (.bool true), .rat 9 x, .rat 9 y, .val (.int .i64 (cmpQ x y)), .rat 9 x, .rat 9 y, .val (.int .i64 (cmpQ x y)), .val (.bool true), .val (.bool true), .val (.bool true), .val (.bool true), .val (.bool true)] : List Kd).getD t .any

set_option maxRecDepth 100000 in
set_option maxHeartbeats 4000000 in
theorem compares_go {na nb : Bool} {an ad bn bd : Option Addr} {n1 s1 n2 s2 m1 t1 m2 t2 k1 k2 : Nat} {x y : Rat} (w : World)
    (hx : RatV w na an n1 s1 ad n2 s2 k1 x) (hy : RatV w nb bn m1 t1 bd m2 t2 k2 y) :
    Calls Try.prog 4 #[.agg #[.bool na, .slice an n1 s1, .slice ad n2 s2], .agg #[.bool nb, .slice bn m1 t1, .slice bd m2 t2]] w (TrueP w) := by
  have HA := Lib.hid (And.intro hx hy)
  clear hx hy
  go_enter Try.func4, Try.ntmps4
  go_wp2_with fail
  obtain ⟨W0, hW0⟩ : ∃ W0, (w.alloc (.cells #[.bool na, .slice an n1 s1, .slice ad n2 s2] 24)).alloc (.cells #[.bool nb, .slice bn m1 t1, .slice bd m2 t2] 24) = W0 := ⟨_, rfl⟩
  have hbw : Below w.heap.size w W0 := by rw [← hW0]; exact below_alloc2 _ _ _
  obtain ⟨hb0, hb1⟩ := alloc2_box w [.bool na, .slice an n1 s1, .slice ad n2 s2] [.bool nb, .slice bn m1 t1, .slice bd m2 t2] 24
  simp only [hW0] at hb0 hb1
  rw [hW0]
  clear hW0
  have HX := Lib.hid (And.intro hbw (And.intro hb0 hb1))
  clear hbw hb0 hb1
  refine (keepRat_any _ _ _ _ _ _ _ W0).mono ?_
  rintro e w1 ⟨rfl, hw1⟩
  have H1 := Lib.hid hw1
  obtain ⟨x3, x4, x5, _⟩ := keep3 HX.out.2.2 hw1
  clear hw1
  by_cases hf1 : n1 ≤ 8 ∧ n2 ≤ 8
  · rw [decide_eq_true hf1]
    have F1 := Lib.hid hf1
    clear hf1
    go_wp2_with fail
    refine (keepRat_any _ _ _ _ _ _ _ w1).mono ?_
    rintro e w2 ⟨rfl, hw2⟩
    have H2 := Lib.hid (below_next H1.out hw2)
    clear hw2 H1 x3 x4 x5
    by_cases hf2 : m1 ≤ 8 ∧ m2 ≤ 8
    · rw [decide_eq_true hf2]
      have F2 := Lib.hid hf2
      clear hf2
      go_wp2_with fail
      have hkx := box_of (HX.out.2.1.below H2.out) ((HA.out.1.le F1.out.1 F1.out.2).below (below_next' HX.out.1 H2.out))
      have hky := box_of (HX.out.2.2.below H2.out) ((HA.out.2.le F2.out.1 F2.out.2).below (below_next' HX.out.1 H2.out))
      have HK := Lib.hid (And.intro (below_next' HX.out.1 H2.out) (And.intro hkx hky))
      clear hkx hky
      refine region_flow (Fk (comparesL x y)) (by rfl) (fun t w w' v hb h => Kd.below hb h) 44 (by rfl) (by kernel_rfl) (by kernel_rfl) [2, 3] (by kernel_rfl) ?h0 (fun t v h => Kd.draw _ _ _ h) ?steps ?fin
      case h0 =>
        intro t ht
        simp only [List.mem_cons, List.not_mem_nil, or_false] at ht
        rcases ht with rfl | rfl
        · exact HK.out.2.1
        · exact HK.out.2.2
      case steps =>
        exact ⟨fl_load guard_none rfl rfl,
          fl_canon guard_none (.inl rfl) rfl (by omega),
          fl_load guard_none rfl rfl,
          fl_refCanon guard_none (.inl rfl) rfl (by omega),
          fl_same guard_none rfl rfl rfl (same_iff rfl) (by omega),
          fl_move guard_none rfl,
          fl_load (guard_true (s := 18) rfl rfl) rfl rfl,
          fl_integral (guard_true (s := 18) rfl rfl) (.inl rfl) rfl (decide_eq_true_iff (p := x.den = 1)).symm (by omega),
          fl_load (guard_true (s := 18) rfl rfl) rfl rfl,
          fl_refIntegral (guard_true (s := 18) rfl rfl) (.inl rfl) rfl rfl (by omega),
          fl_beql2 (guard_true (s := 18) rfl rfl) rfl rfl rfl (beq_self_eq_true _),
          fl_and guard_none rfl rfl,
          fl_move guard_none rfl,
          fl_load (guard_true (s := 25) rfl rfl) rfl rfl,
          fl_sign (guard_true (s := 25) rfl rfl) (.inl rfl) rfl rfl,
          fl_load (guard_true (s := 25) rfl rfl) rfl rfl,
          fl_refSign (guard_true (s := 25) rfl rfl) (.inl rfl) rfl rfl (by omega),
          fl_eql2 (guard_true (s := 25) rfl rfl) rfl rfl rfl (beq_self_eq_true _),
          fl_and guard_none rfl rfl,
          fl_move guard_none rfl,
          fl_load (guard_true (s := 32) rfl rfl) rfl rfl,
          fl_load (guard_true (s := 32) rfl rfl) rfl rfl,
          fl_cmp (guard_true (s := 32) rfl rfl) (.inl rfl) (.inl rfl) rfl rfl (by omega),
          fl_load (guard_true (s := 32) rfl rfl) rfl rfl,
          fl_load (guard_true (s := 32) rfl rfl) rfl rfl,
          fl_refCmp (guard_true (s := 32) rfl rfl) (.inl rfl) (.inl rfl) rfl rfl (by omega),
          fl_eql2 (guard_true (s := 32) rfl rfl) rfl rfl rfl (beq_self_eq_true _),
          fl_and guard_none rfl rfl,
          fl_move guard_none rfl,
          fl_awake (guard_true (s := 41) rfl rfl) rfl,
          fl_and guard_none rfl rfl,
          fl_assign guard_none rfl,
          trivial⟩
      case fin =>
        intro A7 w11 hb11 _ hdf7 hfacts7 _
        have e6 : A7.tmps[4]?.getD undef = .bool true := by rw [← Array.getD_eq_getD_getElem?]; exact hfacts7 31 4 rfl
        have hdd : A7.defers = [] := by rw [hdf7]
        have HR := Lib.hid (below_next' HK.out.1 hb11)
        clear hfacts7 hdf7 hb11
        go_wp2_with fail
        refine bodyPost_ret (v := .bool true) (by simp [results, Try.results4, go_sem, e6]) hdd ⟨rfl, HR.out⟩
    · rw [decide_eq_false hf2]
      go_wp2
      go_ret
      exact ⟨rfl, below_next' HX.out.1 H2.out⟩
  · rw [decide_eq_false hf1]
    go_wp2
    go_ret
    exact ⟨rfl, below_next' HX.out.1 H1.out⟩

end Go.Proofs.Ytjnaibeebijkaaa
