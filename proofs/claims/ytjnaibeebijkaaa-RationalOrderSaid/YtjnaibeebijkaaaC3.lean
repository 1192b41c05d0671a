/-
  The walk of the law RationalFloors. No conditions.
-/
import Derived.Test.YtjnaibeebijkaaaFlow6
import Derived.Test.YtjnaibeebijkaaaC2
namespace Go.Proofs.Ytjnaibeebijkaaa
open Go.RowKit Num

theorem dec_true {p : Prop} [Decidable p] (h : p) : decide p = true := decide_eq_true h
theorem int_iff (x : Rat) : (x.floor : Rat).den = 1 ↔ true = true := ⟨fun _ => rfl, fun _ => Rat.den_intCast _⟩
theorem ceil_iff (x : Rat) : (ceilQ x).den = 1 ↔ true = true := ⟨fun _ => rfl, fun _ => by unfold ceilQ; rw [Rat.neg_den]; exact Rat.den_intCast _⟩
theorem floor_next (x : Rat) : x < (x.floor : Rat) + 1 := by
  have := Rat.lt_floor_add_one x
  rw [Rat.intCast_add] at this
  exact this
theorem le_ceil (x : Rat) : x ≤ ceilQ x := by
  unfold ceilQ
  have := Rat.floor_le (-x)
  rw [← Rat.neg_le_neg_iff, Rat.neg_neg] at this
  exact this
theorem ceil_prev (x : Rat) : ceilQ x - 1 < x := by
  unfold ceilQ
  have h := floor_next (-x)
  rw [← Rat.neg_lt_neg_iff, Rat.neg_neg, Rat.neg_add, ← Rat.sub_eq_add_neg] at h
  exact h

/-- What the slots hold in the law's two regions. -/
def floorsA (x : Rat) (B : Nat) : Tmp → Kd := fun t => ([.any, .box 9 x, .any, .new B, .new B, .new B, .any, .any, .any, .rat 9 x, .ratC 10 (x.floor : Rat), .rat 9 x, .ratC 10 (ceilQ x), .ratC 1 1] : List Kd).getD t .any
def floorsB (x : Rat) : Tmp → Kd := fun t => ([.any, .box 9 x, .val (.bool true), .boxC 10 (x.floor : Rat), .boxC 10 (ceilQ x), .boxC 1 1, .any, .any, .any, .any, .any, .any, .any, .any, .ratC 10 (x.floor : Rat), .val (.bool true), .val (.bool true), .ratC 10 (ceilQ x), .val (.bool true), .val (.bool true), .val (.bool true), .ratC 10 (x.floor : Rat), .rat 9 x, .val (.int .i64 (cmpQ (x.floor : Rat) x)), .val (.bool true), .val (.bool true), .val (.bool true), .ratC 10 (x.floor : Rat), .ratC 1 1, .ratC 12 ((x.floor : Rat) + 1), .rat 9 x, .val (.int .i64 (cmpQ ((x.floor : Rat) + 1) x)), .val (.bool true), .val (.bool true), .val (.bool true), .ratC 10 (ceilQ x), .rat 9 x, .val (.int .i64 (cmpQ (ceilQ x) x)), .val (.bool true), .val (.bool true), .val (.bool true), .ratC 10 (ceilQ x), .ratC 1 1, .ratC 12 ((ceilQ x) - 1), .rat 9 x, .val (.int .i64 (cmpQ ((ceilQ x) - 1) x)), .val (.bool true), .val (.bool true), .val (.bool true), .val (.bool true), .val (.bool true)] : List Kd).getD t .any

set_option maxRecDepth 100000 in
set_option maxHeartbeats 4000000 in
theorem floors_go {na : Bool} {an ad : Option Addr} {n1 s1 n2 s2 k1 : Nat} {x : Rat} (w : World) (hx : RatV w na an n1 s1 ad n2 s2 k1 x) :
    Calls Try.prog 12 #[.agg #[.bool na, .slice an n1 s1, .slice ad n2 s2]] w (TrueP w) := by
  have HA := Lib.hid hx
  clear hx
  go_enter Try.func12, Try.ntmps12
  go_wp2_with fail
  have hb0 := BoxV.new w w.heap.size 24 (Nat.le_refl _) [.bool na, .slice an n1 s1, .slice ad n2 s2]
  have HX := Lib.hid (And.intro hb0 (below_alloc1 w (.cells #[.bool na, .slice an n1 s1, .slice ad n2 s2] 24)))
  clear hb0
  refine (keepRat_any _ _ _ _ _ _ _ _).mono ?_
  rintro e w1 ⟨rfl, hw1⟩
  have H1 := Lib.hid hw1
  clear hw1
  by_cases hf : n1 ≤ 8 ∧ n2 ≤ 8
  · rw [decide_eq_true hf]
    have F1 := Lib.hid hf
    clear hf
    go_wp2_with fail
    have hbw := below_next' HX.out.2 H1.out
    have hk := box_of (HX.out.1.below H1.out) ((HA.out.le F1.out.1 F1.out.2).below hbw)
    have HK := Lib.hid (And.intro hbw hk)
    clear hbw hk
    refine region_flow_tail (Fk (floorsA x w1.heap.size)) (by rfl) (fun t w w' v hb h => Kd.below hb h) 51 8 [3, 4, 5] (by rfl) (by kernel_rfl) (by kernel_rfl) (by kernel_rfl) (by kernel_rfl) ?hN [1] (by kernel_rfl) ?h0 (fun t v h => Kd.draw _ _ _ h) ?steps ?fin
    case hN =>
      intro t ht w v hv
      simp only [List.mem_cons, List.not_mem_nil, or_false] at ht
      rcases ht with rfl | rfl | rfl <;>
      · obtain ⟨g, e, hb⟩ := hv
        exact ⟨g, e, hb.block.2⟩
    case h0 =>
      intro t ht
      simp only [List.mem_cons, List.not_mem_nil, or_false] at ht
      subst ht
      exact HK.out.2
    case steps =>
      exact ⟨flowN_of (fl_load guard_none rfl rfl) (by decide), flowN_of (fl_floor guard_none (.inl rfl) rfl (by omega)) (by decide), flowN_of (fl_load guard_none rfl rfl) (by decide), flowN_of (fl_ceil guard_none (.inl rfl) rfl (by omega)) (by decide),
        flowN_of (fl_fromInt guard_none quo_one rfl (by omega) (by omega) (sz_of_small (by decide) (by decide))) (by decide), fl_new rfl, fl_new rfl, fl_new rfl, trivial⟩
    case fin =>
      intro a w2 hb2 hsz hdf hfacts hout hap
      have f3 : (Kd.new w1.heap.size).holds w2 (a.tmps.getD 3 undef) := hfacts 5 3 (by decide) rfl
      have f4 : (Kd.new w1.heap.size).holds w2 (a.tmps.getD 4 undef) := hfacts 6 4 (by decide) rfl
      have f5 : (Kd.new w1.heap.size).holds w2 (a.tmps.getD 5 undef) := hfacts 7 5 (by decide) rfl
      have f10 : (Kd.ratC 10 (x.floor : Rat)).holds w2 (a.tmps.getD 10 undef) := hfacts 1 10 (by decide) rfl
      have f12 : (Kd.ratC 10 (ceilQ x)).holds w2 (a.tmps.getD 12 undef) := hfacts 3 12 (by decide) rfl
      have f13 : (Kd.ratC 1 1).holds w2 (a.tmps.getD 13 undef) := hfacts 4 13 (by decide) rfl
      have a34 : a.tmps.getD 3 undef ≠ a.tmps.getD 4 undef := hap 5 6 3 4 (by decide) (by decide) (by decide) rfl rfl (by decide) (by decide)
      have a35 : a.tmps.getD 3 undef ≠ a.tmps.getD 5 undef := hap 5 7 3 5 (by decide) (by decide) (by decide) rfl rfl (by decide) (by decide)
      have a45 : a.tmps.getD 4 undef ≠ a.tmps.getD 5 undef := hap 6 7 4 5 (by decide) (by decide) (by decide) rfl rfl (by decide) (by decide)
      have e1 : a.tmps.getD 1 undef = .pointer (some ⟨w.heap.size, 0, none⟩) := hout 1 (free_of (by kernel_rfl))
      have hk1 : (Kd.box 9 x).holds w2 (.pointer (some ⟨w.heap.size, 0, none⟩)) := Kd.below hb2 HK.out.2
      have hlt : w.heap.size < w1.heap.size := (HX.out.1.below H1.out).block.2
      have a1 : ∀ v, (Kd.new w1.heap.size).holds w2 v → (.pointer (some ⟨w.heap.size, 0, none⟩) : Value) ≠ v := by
        rintro v ⟨g, rfl, hg⟩ e
        simp only [Value.pointer.injEq, Option.some.injEq, Addr.mk.injEq, and_true] at e
        have := hg.block.1
        omega
      have n3 := a1 _ f3
      have n4 := a1 _ f4
      have n5 := a1 _ f5
      have hn12 : a.tmps.getD 12 undef ≠ a.tmps.getD 3 undef := by obtain ⟨g, e, _⟩ := f3; rw [e]; exact ratC_ne f12
      have hn13 : a.tmps.getD 13 undef ≠ a.tmps.getD 3 undef := by obtain ⟨g, e, _⟩ := f3; rw [e]; exact ratC_ne f13
      have hn13' : a.tmps.getD 13 undef ≠ a.tmps.getD 4 undef := by obtain ⟨g, e, _⟩ := f4; rw [e]; exact ratC_ne f13
      have hsz' : a.tmps.size = 51 := hsz
      have hdf' : a.defers = [] := hdf
      change runFrom _ _ _ 3 8 a w2
      simp only [runFrom]
      refine store_one (t := 3) (u := 10) rfl f3 f10 fun w3 keep3' b3 bel3 => ?_
      refine store_one (t := 4) (u := 12) rfl (keep3' _ _ f4 a34.symm) (keep3' _ _ f12 hn12) fun w4 keep4 b4 bel4 => ?_
      refine store_one (t := 5) (u := 13) rfl (keep4 _ _ (keep3' _ _ f5 a35.symm) a45.symm) (keep4 _ _ (keep3' _ _ f13 hn13) hn13') fun w5 keep5 b5 bel5 => ?_
      have g3 := keep5 _ _ (keep4 _ _ b3 a34) a35
      have g4 := keep5 _ _ b4 a45
      have g1 := keep5 _ _ (keep4 _ _ (keep3' _ _ hk1 n3) n4) n5
      have hb5 := below_next' HK.out.1 (bel5 _ (bel4 _ (bel3 _ hb2)))
      have HQ := Lib.hid (And.intro e1 (And.intro g1 (And.intro g3 (And.intro g4 (And.intro b5 (And.intro hb5 (And.intro hsz' hdf')))))))
      clear hfacts hout hap f3 f4 f5 f10 f12 f13 a34 a35 a45 e1 hk1 hlt a1 n3 n4 n5 hn12 hn13 hn13' keep3' keep4 keep5 b3 b4 b5 bel3 bel4 bel5 g1 g3 g4 hb5 hsz hdf hsz' hdf' hb2
      go_wp2_with fail
      refine region_flow (Fk (floorsB x)) (by rfl) (fun t w w' v hb h => Kd.below hb h) 51 HQ.out.2.2.2.2.2.2.1 (by kernel_rfl) (by kernel_rfl) [1, 3, 4, 5] (by kernel_rfl) ?h0 (fun t v h => Kd.draw _ _ _ h) ?steps ?fin
      case h0 =>
        intro t ht
        simp only [List.mem_cons, List.not_mem_nil, or_false] at ht
        rcases ht with rfl | rfl | rfl | rfl
        · show (Kd.box 9 x).holds w5 _
          rw [HQ.out.1]
          exact HQ.out.2.1
        · exact HQ.out.2.2.1
        · exact HQ.out.2.2.2.1
        · exact HQ.out.2.2.2.2.1
      case steps =>
        exact ⟨fl_loadC guard_none rfl rfl,
        fl_integral guard_none (.inr rfl) rfl (int_iff x) (by omega),
        fl_move guard_none rfl,
        fl_loadC (guard_true (s := 16) rfl rfl) rfl rfl,
        fl_integral (guard_true (s := 16) rfl rfl) (.inr rfl) rfl (ceil_iff x) (by omega),
        fl_and guard_none rfl rfl,
        fl_move guard_none rfl,
        fl_loadC (guard_true (s := 20) rfl rfl) rfl rfl,
        fl_load (guard_true (s := 20) rfl rfl) rfl rfl,
        fl_cmp (guard_true (s := 20) rfl rfl) (.inr rfl) (.inl rfl) rfl rfl (by omega),
        fl_leq (guard_true (s := 20) rfl rfl) rfl rfl (dec_true (cmp_le.2 (Rat.floor_le x))),
        fl_and guard_none rfl rfl,
        fl_move guard_none rfl,
        fl_loadC (guard_true (s := 26) rfl rfl) rfl rfl,
        fl_loadC (guard_true (s := 26) rfl rfl) rfl rfl,
        fl_add (guard_true (s := 26) rfl rfl) (.inr rfl) (.inr rfl) rfl (by omega),
        fl_load (guard_true (s := 26) rfl rfl) rfl rfl,
        fl_cmp (guard_true (s := 26) rfl rfl) (.inr rfl) (.inl rfl) rfl rfl (by omega),
        fl_gtr (guard_true (s := 26) rfl rfl) rfl rfl (dec_true (cmp_gt.2 (floor_next x))),
        fl_and guard_none rfl rfl,
        fl_move guard_none rfl,
        fl_loadC (guard_true (s := 34) rfl rfl) rfl rfl,
        fl_load (guard_true (s := 34) rfl rfl) rfl rfl,
        fl_cmp (guard_true (s := 34) rfl rfl) (.inr rfl) (.inl rfl) rfl rfl (by omega),
        fl_geq (guard_true (s := 34) rfl rfl) rfl rfl (dec_true (cmp_ge.2 (le_ceil x))),
        fl_and guard_none rfl rfl,
        fl_move guard_none rfl,
        fl_loadC (guard_true (s := 40) rfl rfl) rfl rfl,
        fl_loadC (guard_true (s := 40) rfl rfl) rfl rfl,
        fl_sub (guard_true (s := 40) rfl rfl) (.inr rfl) (.inr rfl) rfl (by omega),
        fl_load (guard_true (s := 40) rfl rfl) rfl rfl,
        fl_cmp (guard_true (s := 40) rfl rfl) (.inr rfl) (.inl rfl) rfl rfl (by omega),
        fl_lss (guard_true (s := 40) rfl rfl) rfl rfl (dec_true (cmp_lt.2 (ceil_prev x))),
        fl_and guard_none rfl rfl,
        fl_move guard_none rfl,
        fl_awake (guard_true (s := 48) rfl rfl) rfl,
        fl_and guard_none rfl rfl,
        fl_assign guard_none rfl,
        trivial⟩
      case fin =>
        intro A7 w11 hb11 _ hdf7 hfacts7 _
        have e6 : A7.tmps[2]?.getD undef = .bool true := by rw [← Array.getD_eq_getD_getElem?]; exact hfacts7 37 2 rfl
        have hdd : A7.defers = [] := by rw [hdf7]; exact HQ.out.2.2.2.2.2.2.2
        have HR := Lib.hid (below_next' HQ.out.2.2.2.2.2.1 hb11)
        clear hfacts7 hdf7 hb11
        go_wp2_with fail
        refine bodyPost_ret (v := .bool true) (by simp [results, Try.results12, go_sem, e6]) hdd ⟨rfl, HR.out⟩
  · rw [decide_eq_false hf]
    go_wp2
    go_ret
    exact ⟨rfl, below_next' HX.out.2 H1.out⟩

end Go.Proofs.Ytjnaibeebijkaaa
