/-
  The walk of the law RationalRounds. No conditions.
-/
import Derived.Test.YtjnaibeebijkaaaQ7
import Derived.Test.YtjnaibeebijkaaaFlow6
import Derived.Test.YtjnaibeebijkaaaC2
namespace Go.Proofs.Ytjnaibeebijkaaa
open Go.RowKit Num

/-- What the slots hold in the law's last line. -/
def roundsL (x : Rat) : Tmp → Kd := fun t => ([.any, .box 9 x, .val (.bool true), .any, .any, .any, .rat 9 x, .ratC 10 (x.floor : Rat), .rat 9 x, .ratC 10 (x.floor : Rat), .val (.bool true), .val (.bool true), .rat 9 x, .ratC 10 (ceilQ x), .rat 9 x, .ratC 10 (ceilQ x), .val (.bool true), .val (.bool true), .val (.bool true), .val (.bool true), .val (.bool true)] : List Kd).getD t .any

set_option maxRecDepth 100000 in
set_option maxHeartbeats 4000000 in
theorem rounds_go {na : Bool} {an ad : Option Addr} {n1 s1 n2 s2 k1 : Nat} {x : Rat} (w : World) (hx : RatV w na an n1 s1 ad n2 s2 k1 x) :
    Calls Try.prog 7 #[.agg #[.bool na, .slice an n1 s1, .slice ad n2 s2]] w (TrueP w) := by
  have HA := Lib.hid hx
  clear hx
  go_enter Try.func7, Try.ntmps7
  go_wp2_with fail
  have hb0 := BoxV.new w w.heap.size 24 (Nat.le_refl _) [.bool na, .slice an n1 s1, .slice ad n2 s2]
  have HX := Lib.hid (And.intro hb0 (below_alloc1 w (.cells #[.bool na, .slice an n1 s1, .slice ad n2 s2] 24)))
  clear hb0
  refine (keepRat_any _ _ _ _ _ _ _ _).mono ?_
  rintro e w1 ⟨rfl, hw1⟩
  have H1 := Lib.hid hw1
  clear hw1
  by_cases hf : n1 ≤ 8 ∧ n2 ≤ 8
  · rw [decide_eq_true hf]
    have F1 := Lib.hid hf
    clear hf
    go_wp2_with fail
    have hbw := below_next' HX.out.2 H1.out
    have hk := box_of (HX.out.1.below H1.out) ((HA.out.le F1.out.1 F1.out.2).below hbw)
    have HK := Lib.hid (And.intro hbw hk)
    clear hbw hk
    refine region_flow (Fk (roundsL x)) (by rfl) (fun t w w' v hb h => Kd.below hb h) 21 (by rfl) (by kernel_rfl) (by kernel_rfl) [1] (by kernel_rfl) ?h0 (fun t v h => Kd.draw _ _ _ h) ?steps ?fin
    case h0 =>
      intro t ht
      simp only [List.mem_cons, List.not_mem_nil, or_false] at ht
      subst ht
      exact HK.out.2
    case steps =>
      exact ⟨fl_load guard_none rfl rfl,
        fl_floor guard_none (.inl rfl) rfl (by omega),
        fl_load guard_none rfl rfl,
        fl_refFloor guard_none (.inl rfl) rfl (by omega),
        fl_same guard_none rfl rfl rfl (same_iff rfl) (by omega),
        fl_move guard_none rfl,
        fl_load (guard_true (s := 11) rfl rfl) rfl rfl,
        fl_ceil (guard_true (s := 11) rfl rfl) (.inl rfl) rfl (by omega),
        fl_load (guard_true (s := 11) rfl rfl) rfl rfl,
        fl_refCeil (guard_true (s := 11) rfl rfl) (.inl rfl) rfl (by omega),
        fl_same (guard_true (s := 11) rfl rfl) rfl rfl rfl (same_iff rfl) (by omega),
        fl_and guard_none rfl rfl,
        fl_move guard_none rfl,
        fl_awake (guard_true (s := 18) rfl rfl) rfl,
        fl_and guard_none rfl rfl,
        fl_assign guard_none rfl,
        trivial⟩
    case fin =>
      intro A7 w11 hb11 _ hdf7 hfacts7 _
      have e6 : A7.tmps[2]?.getD undef = .bool true := by rw [← Array.getD_eq_getD_getElem?]; exact hfacts7 15 2 rfl
      have hdd : A7.defers = [] := by rw [hdf7]
      have HR := Lib.hid (below_next' HK.out.1 hb11)
      clear hfacts7 hdf7 hb11
      go_wp2_with fail
      refine bodyPost_ret (v := .bool true) (by simp [results, Try.results7, go_sem, e6]) hdd ⟨rfl, HR.out⟩
  · rw [decide_eq_false hf]
    go_wp2
    go_ret
    exact ⟨rfl, below_next' HX.out.2 H1.out⟩

end Go.Proofs.Ytjnaibeebijkaaa
