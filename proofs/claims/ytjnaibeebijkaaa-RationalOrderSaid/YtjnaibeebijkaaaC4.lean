/-
  The walk of the law RationalOrder. No conditions.
-/
import Derived.Deep.CutBlock
import Derived.Test.YtjnaibeebijkaaaFlow7
import Derived.Test.YtjnaibeebijkaaaC3
namespace Go.Proofs.Ytjnaibeebijkaaa
open Go.RowKit Num

theorem dec_false {p : Prop} [Decidable p] (h : ¬ p) : decide p = false := decide_eq_false h
theorem bne_self {α : Type} [BEq α] [LawfulBEq α] (a : α) : (a != a) = false := by simp
theorem beq_self {α : Type} [BEq α] [LawfulBEq α] (a : α) : (a == a) = true := by simp
theorem minus_cmp (x y : Rat) : IntKind.i64.wrap (-(cmpQ y x)) = cmpQ x y := by
  rw [← cmp_swap y x, wrap_cmpQ]
theorem cmp_eq0 (x y : Rat) : (cmpQ x y == 0) = decide (x = y) := by
  rw [Bool.eq_iff_iff, beq_iff_eq, decide_eq_true_eq]
  exact cmp_eq
theorem sgn_pos {z : Rat} : 0 < sgn z ↔ 0 < z := by rw [sgn_cmp0]; exact cmp_gt
theorem cmp_mul {x y z : Rat} (h : 0 < z) : cmpQ (x * z) (y * z) = cmpQ x y := lt_congr (Rat.mul_lt_mul_right h) (Rat.mul_lt_mul_right h)
theorem cmp_add (x y z : Rat) : cmpQ (x + z) (y + z) = cmpQ x y := lt_congr Rat.add_lt_add_right Rat.add_lt_add_right
theorem sgn_sub (x y : Rat) : sgn (x - y) = cmpQ x y := by
  rw [sgn_cmp0, ← cmp_add x y (-y), ← Rat.sub_eq_add_neg, ← Rat.sub_eq_add_neg, Rat.sub_self]

/-- What the slots hold in the law's regions. -/
def orderA (x y : Rat) : Tmp → Kd := fun t => ([.any, .any, .any, .box 9 x, .box 9 y, .any, .any, .val (.int .i64 (cmpQ x y)), .any, .any, .any, .any, .any, .any, .any, .any, .any, .any, .any, .any, .any, .any, .any, .any, .val (.int .i64 (cmpQ x y)), .rat 9 y, .rat 9 x, .val (.int .i64 (cmpQ y x)), .val (.int .i64 (cmpQ x y)), .val (.bool false), .val (.bool false), .val (.int .i64 (cmpQ x y)), .val (.bool (decide (x = y))), .rat 9 x, .ratC 9 x, .rat 9 y, .ratC 9 y, .val (.bool (decide (x = y))), .val (.bool false), .val (.bool false)] : List Kd).getD t .any
def orderB (x y z : Rat) : Bool → Bool → Tmp → Kd
  | true, true => fun t => ([.any, .any, .any, .box 9 x, .box 9 y, .box 9 z, .any, .val (.int .i64 (cmpQ x y)), .any, .any, .any, .any, .any, .any, .any, .any, .any, .any, .any, .any, .any, .any, .any, .any, .any, .any, .any, .any, .any, .any, .any, .any, .any, .any, .any, .any, .any, .any, .any, .any, .val (.int .i64 (cmpQ x y)), .val (.bool true), .val (.bool true), .rat 9 y, .rat 9 z, .val (.int .i64 (cmpQ y z)), .val (.bool true), .val (.bool true), .val (.bool true), .rat 9 x, .rat 9 z, .val (.int .i64 (cmpQ x z)), .val (.bool false), .val (.bool false)] : List Kd).getD t .any
  | true, false => fun t => ([.any, .any, .any, .box 9 x, .box 9 y, .box 9 z, .any, .val (.int .i64 (cmpQ x y)), .any, .any, .any, .any, .any, .any, .any, .any, .any, .any, .any, .any, .any, .any, .any, .any, .any, .any, .any, .any, .any, .any, .any, .any, .any, .any, .any, .any, .any, .any, .any, .any, .val (.int .i64 (cmpQ x y)), .val (.bool true), .val (.bool true), .rat 9 y, .rat 9 z, .val (.int .i64 (cmpQ y z)), .val (.bool false), .val (.bool false), .val (.bool false), .any, .any, .any, .any, .val (.bool false)] : List Kd).getD t .any
  | false, _ => fun t => ([.any, .any, .any, .box 9 x, .box 9 y, .box 9 z, .any, .val (.int .i64 (cmpQ x y)), .any, .any, .any, .any, .any, .any, .any, .any, .any, .any, .any, .any, .any, .any, .any, .any, .any, .any, .any, .any, .any, .any, .any, .any, .any, .any, .any, .any, .any, .any, .any, .any, .val (.int .i64 (cmpQ x y)), .val (.bool false), .val (.bool false), .any, .any, .any, .any, .val (.bool false), .val (.bool false), .any, .any, .any, .any, .val (.bool false)] : List Kd).getD t .any
def orderC (x y z : Rat) : Bool → Tmp → Kd
  | true => fun t => ([.any, .any, .any, .box 9 x, .box 9 y, .box 9 z, .any, .val (.int .i64 (cmpQ x y)), .any, .any, .any, .any, .any, .any, .any, .any, .any, .any, .any, .any, .any, .any, .any, .any, .any, .any, .any, .any, .any, .any, .any, .any, .any, .any, .any, .any, .any, .any, .any, .any, .any, .any, .any, .any, .any, .any, .any, .any, .any, .any, .any, .any, .any, .any, .rat 9 z, .val (.int .i64 (sgn z)), .val (.bool true), .val (.bool true), .rat 9 x, .rat 9 z, .ratC 19 (x * z), .rat 9 y, .rat 9 z, .ratC 19 (y * z), .val (.int .i64 (cmpQ x y)), .val (.int .i64 (cmpQ x y)), .val (.bool false), .val (.bool false)] : List Kd).getD t .any
  | false => fun t => ([.any, .any, .any, .box 9 x, .box 9 y, .box 9 z, .any, .val (.int .i64 (cmpQ x y)), .any, .any, .any, .any, .any, .any, .any, .any, .any, .any, .any, .any, .any, .any, .any, .any, .any, .any, .any, .any, .any, .any, .any, .any, .any, .any, .any, .any, .any, .any, .any, .any, .any, .any, .any, .any, .any, .any, .any, .any, .any, .any, .any, .any, .any, .any, .rat 9 z, .val (.int .i64 (sgn z)), .val (.bool false), .val (.bool false), .any, .any, .any, .any, .any, .any, .any, .any, .any, .val (.bool false)] : List Kd).getD t .any
def orderD (x y z : Rat) : Tmp → Kd := fun t => ([.any, .any, .any, .box 9 x, .box 9 y, .box 9 z, .val (.bool true), .val (.int .i64 (cmpQ x y)), .any, .any, .any, .any, .any, .any, .any, .any, .any, .any, .any, .any, .any, .any, .any, .any, .any, .any, .any, .any, .any, .any, .any, .any, .any, .any, .any, .any, .any, .any, .any, .any, .any, .any, .any, .any, .any, .any, .any, .any, .any, .any, .any, .any, .any, .any, .any, .any, .any, .any, .any, .any, .any, .any, .any, .any, .any, .any, .any, .any, .rat 9 x, .rat 9 z, .ratC 19 (x + z), .rat 9 y, .rat 9 z, .ratC 19 (y + z), .val (.int .i64 (cmpQ x y)), .val (.int .i64 (cmpQ x y)), .val (.bool true), .val (.bool true), .rat 9 x, .rat 9 y, .ratC 19 (x - y), .val (.int .i64 (cmpQ x y)), .val (.int .i64 (cmpQ x y)), .val (.bool true), .val (.bool true), .val (.bool true), .val (.bool true), .val (.bool true)] : List Kd).getD t .any

set_option maxRecDepth 100000 in
set_option maxHeartbeats 8000000 in
theorem order_go {na nb nc : Bool} {an ad bn bd cn cd : Option Addr} {n1 s1 n2 s2 m1 t1 m2 t2 o1 r1 o2 r2 k1 k2 k3 : Nat} {x y z : Rat} (w : World)
    (hx : RatV w na an n1 s1 ad n2 s2 k1 x) (hy : RatV w nb bn m1 t1 bd m2 t2 k2 y) (hz : RatV w nc cn o1 r1 cd o2 r2 k3 z) :
    Calls Try.prog 11 #[.agg #[.bool na, .slice an n1 s1, .slice ad n2 s2], .agg #[.bool nb, .slice bn m1 t1, .slice bd m2 t2], .agg #[.bool nc, .slice cn o1 r1, .slice cd o2 r2]] w (TrueP w) := by
  have HA := Lib.hid (And.intro hx (And.intro hy hz))
  clear hx hy hz
  go_enter Try.func11, Try.ntmps11
  go_wp2_with fail
  obtain ⟨W0, hW0⟩ : ∃ W0, ((w.alloc (.cells #[.bool na, .slice an n1 s1, .slice ad n2 s2] 24)).alloc (.cells #[.bool nb, .slice bn m1 t1, .slice bd m2 t2] 24)).alloc (.cells #[.bool nc, .slice cn o1 r1, .slice cd o2 r2] 24) = W0 := ⟨_, rfl⟩
  have hbw : Below w.heap.size w W0 := by rw [← hW0]; exact below_alloc3 _ _ _ _
  obtain ⟨hb0, hb1, hb2⟩ := alloc3_box w [.bool na, .slice an n1 s1, .slice ad n2 s2] [.bool nb, .slice bn m1 t1, .slice bd m2 t2] [.bool nc, .slice cn o1 r1, .slice cd o2 r2] 24
  simp only [hW0] at hb0 hb1 hb2
  rw [hW0]
  clear hW0
  have HX := Lib.hid (And.intro hbw (And.intro hb0 (And.intro hb1 hb2)))
  clear hbw hb0 hb1 hb2
  refine (keepRat_any _ _ _ _ _ _ _ W0).mono ?_
  rintro e w1 ⟨rfl, hw1⟩
  have H1 := Lib.hid hw1
  obtain ⟨x0, x1, x2, x3, x4, x5⟩ := keep6s HX.out.2.2.1 HX.out.2.2.2 hw1
  clear hw1
  by_cases hf1 : n1 ≤ 8 ∧ n2 ≤ 8
  · rw [decide_eq_true hf1]
    have F1 := Lib.hid hf1
    clear hf1
    go_wp2_with fail
    refine (keepRat_any _ _ _ _ _ _ _ w1).mono ?_
    rintro e w2 ⟨rfl, hw2⟩
    have H2 := Lib.hid (below_next H1.out hw2)
    clear hw2 H1 x0 x1 x2 x3 x4 x5
    obtain ⟨x3, x4, x5, _⟩ := keep3 HX.out.2.2.2 H2.out
    by_cases hf2 : m1 ≤ 8 ∧ m2 ≤ 8
    · rw [decide_eq_true hf2]
      have F2 := Lib.hid hf2
      clear hf2
      go_wp2_with fail
      refine (keepRat_any _ _ _ _ _ _ _ w2).mono ?_
      rintro e w3 ⟨rfl, hw3⟩
      have H3 := Lib.hid (below_next H2.out hw3)
      clear hw3 H2 x3 x4 x5
      by_cases hf3 : o1 ≤ 8 ∧ o2 ≤ 8
      · rw [decide_eq_true hf3]
        have F3 := Lib.hid hf3
        clear hf3
        have hw6 := below_next' HX.out.1 H3.out
        have hkx := box_of (HX.out.2.1.below H3.out) ((HA.out.1.le F1.out.1 F1.out.2).below hw6)
        have hky := box_of (HX.out.2.2.1.below H3.out) ((HA.out.2.1.le F2.out.1 F2.out.2).below hw6)
        have hkz := box_of (HX.out.2.2.2.below H3.out) ((HA.out.2.2.le F3.out.1 F3.out.2).below hw6)
        have hrx := (HA.out.1.le F1.out.1 F1.out.2).below hw6
        have hry := (HA.out.2.1.le F2.out.1 F2.out.2).below hw6
        obtain ⟨x0, x1, x2, x3, x4, x5⟩ := keep6s HX.out.2.1 HX.out.2.2.1 H3.out
        have HC := Lib.hid (And.intro hrx hry)
        have HB := Lib.hid (And.intro hw6 (And.intro hkx (And.intro hky hkz)))
        clear hw6 hkx hky hkz hrx hry
        go_wp2_with fail
        refine (cmp_any _ _ _ _ _ _ _ _ _ _ _ _ _ _ 8 x y _ HC.out.1 HC.out.2 (by omega)).mono ?_
        rintro e w4 ⟨rfl, hw4⟩
        have HK := Lib.hid (And.intro (below_next' HB.out.1 hw4) (And.intro (Kd.below (κ := .box 9 x) hw4 HB.out.2.1) (And.intro (Kd.below (κ := .box 9 y) hw4 HB.out.2.2.1) (Kd.below (κ := .box 9 z) hw4 HB.out.2.2.2))))
        clear hw4 x0 x1 x2 x3 x4 x5 HB HC
        go_wp2_with fail
        refine region_flow (Fk (orderA x y)) (by rfl) (fun t w w' v hb h => Kd.below hb h) 88 (by rfl) (by kernel_rfl) (by kernel_rfl) [3, 4, 7] (by kernel_rfl) ?h0 (fun t v h => Kd.draw _ _ _ h) ?steps ?fin
        case h0 =>
          intro t ht
          simp only [List.mem_cons, List.not_mem_nil, or_false] at ht
          rcases ht with rfl | rfl | rfl
          · exact HK.out.2.1
          · exact HK.out.2.2.1
          · rfl
        case steps =>
          exact ⟨fl_move guard_none rfl,
            fl_load guard_none rfl rfl,
            fl_load guard_none rfl rfl,
            fl_cmp guard_none (.inl rfl) (.inl rfl) rfl rfl (by omega),
            fl_minus guard_none rfl rfl (minus_cmp x y),
            fl_neq2 guard_none rfl rfl rfl (bne_self _),
            fl_move guard_none rfl,
            fl_move (guard_true (s := 30) rfl rfl) rfl,
            fl_eql (guard_true (s := 30) rfl rfl) rfl rfl (cmp_eq0 x y),
            fl_load (guard_true (s := 30) rfl rfl) rfl rfl,
            fl_canon (guard_true (s := 30) rfl rfl) (.inl rfl) rfl (by omega),
            fl_load (guard_true (s := 30) rfl rfl) rfl rfl,
            fl_canon (guard_true (s := 30) rfl rfl) (.inl rfl) rfl (by omega),
            fl_same (guard_true (s := 30) rfl rfl) rfl rfl rfl decide_eq_true_iff (by omega),
            fl_bneq2 (guard_true (s := 30) rfl rfl) rfl rfl rfl (bne_self _),
            fl_or guard_none rfl rfl,
            trivial⟩
        case fin =>
          intro A4 A4w hb hsz hdf hfacts hout
          have e0 : A4.tmps.getD 39 undef = .bool false := by
            have h := hfacts 15 39 rfl
            exact h
          have q3 := (hout 3 (free_of (by kernel_rfl))).trans rfl
          have q4 := (hout 4 (free_of (by kernel_rfl))).trans rfl
          have q5 := (hout 5 (free_of (by kernel_rfl))).trans rfl
          have q7 := (hout 7 (free_of (by kernel_rfl))).trans rfl
          have q8 := hsz.trans rfl
          have q9 := hdf.trans rfl
          have HA4 := Lib.hid (And.intro q3 (And.intro q4 (And.intro q5 (And.intro q7 (And.intro q8 (And.intro q9 hb))))))
          clear hfacts hout hsz hdf q3 q4 q5 q7 q8 q9 hb
          go_wp2_with fail
          refine wp_cond_false e0 (wp_skip ?_)
          go_upto_region 6 with (fail)
          obtain ⟨b1, hb1⟩ : ∃ b1, decide (x ≤ y) = b1 := ⟨_, rfl⟩
          obtain ⟨b2, hb2⟩ : ∃ b2, decide (y ≤ z) = b2 := ⟨_, rfl⟩
          have HB1 := Lib.hid (And.intro hb1 hb2)
          clear hb1 hb2
          refine region_flow_text (Fk (orderB x y z b1 b2)) (fun t w w' v hb h => Kd.below hb h) 88 HA4.out.2.2.2.2.1 (by kernel_rfl) (by kernel_rfl) [3, 4, 5, 7] (by kernel_rfl) ?h0 ?steps ?fin
          case h0 =>
            intro t ht
            simp only [List.mem_cons, List.not_mem_nil, or_false] at ht
            cases b1 <;> cases b2 <;> rcases ht with rfl | rfl | rfl | rfl
            iterate 4
              · show (Kd.box 9 x).holds A4w _
                rw [HA4.out.1]
                exact Kd.below (κ := .box 9 x) HA4.out.2.2.2.2.2.2 HK.out.2.1
              · show (Kd.box 9 y).holds A4w _
                rw [HA4.out.2.1]
                exact Kd.below (κ := .box 9 y) HA4.out.2.2.2.2.2.2 HK.out.2.2.1
              · show (Kd.box 9 z).holds A4w _
                rw [HA4.out.2.2.1]
                exact Kd.below (κ := .box 9 z) HA4.out.2.2.2.2.2.2 HK.out.2.2.2
              · exact HA4.out.2.2.2.1
          case steps =>
            cases b1
            · have h1 : ¬ x ≤ y := of_decide_eq_false HB1.out.1
              cases b2
              iterate 2
                exact ⟨fl_move guard_none rfl,
                  fl_leq guard_none rfl rfl (dec_false fun h => h1 (cmp_le.1 h)),
                  fl_move guard_none rfl,
                  fl_skip (s := 42) rfl rfl rfl,
                  fl_skip (s := 42) rfl rfl rfl,
                  fl_skip (s := 42) rfl rfl rfl,
                  fl_skip (s := 42) rfl rfl rfl,
                  fl_and_no guard_none rfl rfl,
                  fl_move guard_none rfl,
                  fl_skip (s := 48) rfl rfl rfl,
                  fl_skip (s := 48) rfl rfl rfl,
                  fl_skip (s := 48) rfl rfl rfl,
                  fl_skip (s := 48) rfl rfl rfl,
                  fl_and_no guard_none rfl rfl,
                  trivial⟩
            · have h1 : x ≤ y := of_decide_eq_true HB1.out.1
              cases b2
              · have h2 : ¬ y ≤ z := of_decide_eq_false HB1.out.2
                exact ⟨fl_move guard_none rfl,
                  fl_leq guard_none rfl rfl (dec_true (cmp_le.2 h1)),
                  fl_move guard_none rfl,
                  fl_load (guard_true (s := 42) rfl rfl) rfl rfl,
                  fl_load (guard_true (s := 42) rfl rfl) rfl rfl,
                  fl_cmp (guard_true (s := 42) rfl rfl) (.inl rfl) (.inl rfl) rfl rfl (by omega),
                  fl_leq (guard_true (s := 42) rfl rfl) rfl rfl (dec_false fun h => h2 (cmp_le.1 h)),
                  fl_and guard_none rfl rfl,
                  fl_move guard_none rfl,
                  fl_skip (s := 48) rfl rfl rfl,
                  fl_skip (s := 48) rfl rfl rfl,
                  fl_skip (s := 48) rfl rfl rfl,
                  fl_skip (s := 48) rfl rfl rfl,
                  fl_and_no guard_none rfl rfl,
                  trivial⟩
              · have h2 : y ≤ z := of_decide_eq_true HB1.out.2
                exact ⟨fl_move guard_none rfl,
                  fl_leq guard_none rfl rfl (dec_true (cmp_le.2 h1)),
                  fl_move guard_none rfl,
                  fl_load (guard_true (s := 42) rfl rfl) rfl rfl,
                  fl_load (guard_true (s := 42) rfl rfl) rfl rfl,
                  fl_cmp (guard_true (s := 42) rfl rfl) (.inl rfl) (.inl rfl) rfl rfl (by omega),
                  fl_leq (guard_true (s := 42) rfl rfl) rfl rfl (dec_true (cmp_le.2 h2)),
                  fl_and guard_none rfl rfl,
                  fl_move guard_none rfl,
                  fl_load (guard_true (s := 48) rfl rfl) rfl rfl,
                  fl_load (guard_true (s := 48) rfl rfl) rfl rfl,
                  fl_cmp (guard_true (s := 48) rfl rfl) (.inl rfl) (.inl rfl) rfl rfl (by omega),
                  fl_gtr (guard_true (s := 48) rfl rfl) rfl rfl (dec_false fun h => Rat.not_le.2 (cmp_gt.1 h) (Rat.le_trans h1 h2)),
                  fl_and guard_none rfl rfl,
                  trivial⟩
          case fin =>
            intro A6 A6w hb hsz hdf hfacts hout
            have e0 : A6.tmps.getD 53 undef = .bool false := by
              have h := hfacts 13 53 rfl
              cases b1 <;> cases b2 <;> exact h
            have q3 := (hout 3 (free_of (by kernel_rfl))).trans HA4.out.1
            have q4 := (hout 4 (free_of (by kernel_rfl))).trans HA4.out.2.1
            have q5 := (hout 5 (free_of (by kernel_rfl))).trans HA4.out.2.2.1
            have q7 := (hout 7 (free_of (by kernel_rfl))).trans HA4.out.2.2.2.1
            have q8 := hsz.trans HA4.out.2.2.2.2.1
            have q9 := hdf.trans HA4.out.2.2.2.2.2.1
            have HA6 := Lib.hid (And.intro q3 (And.intro q4 (And.intro q5 (And.intro q7 (And.intro q8 (And.intro q9 (below_next HA4.out.2.2.2.2.2.2 hb)))))))
            clear hfacts hout hsz hdf q3 q4 q5 q7 q8 q9 hb
            go_wp2_with fail
            refine wp_cond_false e0 (wp_skip ?_)
            go_wp2_with fail
            obtain ⟨b3, hb3⟩ : ∃ b3, decide (0 < z) = b3 := ⟨_, rfl⟩
            have HB3 := Lib.hid hb3
            clear hb3
            refine region_flow (Fk (orderC x y z b3)) (by rfl) (fun t w w' v hb h => Kd.below hb h) 88 HA6.out.2.2.2.2.1 (by kernel_rfl) (by kernel_rfl) [3, 4, 5, 7] (by kernel_rfl) ?h0 (fun t v h => Kd.draw _ _ _ h) ?steps ?fin
            case h0 =>
              intro t ht
              simp only [List.mem_cons, List.not_mem_nil, or_false] at ht
              cases b3 <;> rcases ht with rfl | rfl | rfl | rfl
              iterate 2
                · show (Kd.box 9 x).holds A6w _
                  rw [HA6.out.1]
                  exact Kd.below (κ := .box 9 x) HA6.out.2.2.2.2.2.2 HK.out.2.1
                · show (Kd.box 9 y).holds A6w _
                  rw [HA6.out.2.1]
                  exact Kd.below (κ := .box 9 y) HA6.out.2.2.2.2.2.2 HK.out.2.2.1
                · show (Kd.box 9 z).holds A6w _
                  rw [HA6.out.2.2.1]
                  exact Kd.below (κ := .box 9 z) HA6.out.2.2.2.2.2.2 HK.out.2.2.2
                · exact HA6.out.2.2.2.1
            case steps =>
              cases b3
              · have h3 : ¬ 0 < z := of_decide_eq_false HB3.out
                exact ⟨fl_load guard_none rfl rfl,
                  fl_sign guard_none (.inl rfl) rfl rfl,
                  fl_gtr guard_none rfl rfl (dec_false fun h => h3 (sgn_pos.1 h)),
                  fl_move guard_none rfl,
                  fl_skip (s := 57) rfl rfl rfl,
                  fl_skip (s := 57) rfl rfl rfl,
                  fl_skip (s := 57) rfl rfl rfl,
                  fl_skip (s := 57) rfl rfl rfl,
                  fl_skip (s := 57) rfl rfl rfl,
                  fl_skip (s := 57) rfl rfl rfl,
                  fl_skip (s := 57) rfl rfl rfl,
                  fl_skip (s := 57) rfl rfl rfl,
                  fl_skip (s := 57) rfl rfl rfl,
                  fl_and_no guard_none rfl rfl,
                  trivial⟩
              · have h3 : 0 < z := of_decide_eq_true HB3.out
                exact ⟨fl_load guard_none rfl rfl,
                  fl_sign guard_none (.inl rfl) rfl rfl,
                  fl_gtr guard_none rfl rfl (dec_true (sgn_pos.2 h3)),
                  fl_move guard_none rfl,
                  fl_load (guard_true (s := 57) rfl rfl) rfl rfl,
                  fl_load (guard_true (s := 57) rfl rfl) rfl rfl,
                  fl_mul (guard_true (s := 57) rfl rfl) (.inl rfl) (.inl rfl) rfl (by omega),
                  fl_load (guard_true (s := 57) rfl rfl) rfl rfl,
                  fl_load (guard_true (s := 57) rfl rfl) rfl rfl,
                  fl_mul (guard_true (s := 57) rfl rfl) (.inl rfl) (.inl rfl) rfl (by omega),
                  fl_cmp (guard_true (s := 57) rfl rfl) (.inr rfl) (.inr rfl) rfl (cmp_mul h3) (by omega),
                  fl_move (guard_true (s := 57) rfl rfl) rfl,
                  fl_neq2 (guard_true (s := 57) rfl rfl) rfl rfl rfl (bne_self _),
                  fl_and guard_none rfl rfl,
                  trivial⟩
            case fin =>
              intro A8 A8w hb hsz hdf hfacts hout
              have e0 : A8.tmps.getD 67 undef = .bool false := by
                have h := hfacts 13 67 rfl
                cases b3 <;> exact h
              have q3 := (hout 3 (free_of (by kernel_rfl))).trans HA6.out.1
              have q4 := (hout 4 (free_of (by kernel_rfl))).trans HA6.out.2.1
              have q5 := (hout 5 (free_of (by kernel_rfl))).trans HA6.out.2.2.1
              have q7 := (hout 7 (free_of (by kernel_rfl))).trans HA6.out.2.2.2.1
              have q8 := hsz.trans HA6.out.2.2.2.2.1
              have q9 := hdf.trans HA6.out.2.2.2.2.2.1
              have HA8 := Lib.hid (And.intro q3 (And.intro q4 (And.intro q5 (And.intro q7 (And.intro q8 (And.intro q9 (below_next HA6.out.2.2.2.2.2.2 hb)))))))
              clear hfacts hout hsz hdf q3 q4 q5 q7 q8 q9 hb
              go_wp2_with fail
              refine wp_cond_false e0 (wp_skip ?_)
              go_wp2_with fail
              refine region_flow (Fk (orderD x y z)) (by rfl) (fun t w w' v hb h => Kd.below hb h) 88 HA8.out.2.2.2.2.1 (by kernel_rfl) (by kernel_rfl) [3, 4, 5, 7] (by kernel_rfl) ?h0 (fun t v h => Kd.draw _ _ _ h) ?steps ?fin
              case h0 =>
                intro t ht
                simp only [List.mem_cons, List.not_mem_nil, or_false] at ht
                rcases ht with rfl | rfl | rfl | rfl
                · show (Kd.box 9 x).holds A8w _
                  rw [HA8.out.1]
                  exact Kd.below (κ := .box 9 x) HA8.out.2.2.2.2.2.2 HK.out.2.1
                · show (Kd.box 9 y).holds A8w _
                  rw [HA8.out.2.1]
                  exact Kd.below (κ := .box 9 y) HA8.out.2.2.2.2.2.2 HK.out.2.2.1
                · show (Kd.box 9 z).holds A8w _
                  rw [HA8.out.2.2.1]
                  exact Kd.below (κ := .box 9 z) HA8.out.2.2.2.2.2.2 HK.out.2.2.2
                · exact HA8.out.2.2.2.1
              case steps =>
                exact ⟨fl_load guard_none rfl rfl,
                  fl_load guard_none rfl rfl,
                  fl_add guard_none (.inl rfl) (.inl rfl) rfl (by omega),
                  fl_load guard_none rfl rfl,
                  fl_load guard_none rfl rfl,
                  fl_add guard_none (.inl rfl) (.inl rfl) rfl (by omega),
                  fl_cmp guard_none (.inr rfl) (.inr rfl) rfl (cmp_add x y z) (by omega),
                  fl_move guard_none rfl,
                  fl_eql2 guard_none rfl rfl rfl (beq_self _),
                  fl_move guard_none rfl,
                  fl_load (guard_true (s := 77) rfl rfl) rfl rfl,
                  fl_load (guard_true (s := 77) rfl rfl) rfl rfl,
                  fl_sub (guard_true (s := 77) rfl rfl) (.inl rfl) (.inl rfl) rfl (by omega),
                  fl_sign (guard_true (s := 77) rfl rfl) (.inr rfl) rfl (sgn_sub x y),
                  fl_move (guard_true (s := 77) rfl rfl) rfl,
                  fl_eql2 (guard_true (s := 77) rfl rfl) rfl rfl rfl (beq_self _),
                  fl_and guard_none rfl rfl,
                  fl_move guard_none rfl,
                  fl_awake (guard_true (s := 85) rfl rfl) rfl,
                  fl_and guard_none rfl rfl,
                  fl_assign guard_none rfl,
                  trivial⟩
              case fin =>
                intro A7 w11 hb11 _ hdf7 hfacts7 _
                have e6 : A7.tmps[6]?.getD undef = .bool true := by rw [← Array.getD_eq_getD_getElem?]; exact hfacts7 20 6 rfl
                have hdd : A7.defers = [] := hdf7.trans HA8.out.2.2.2.2.2.1
                have HR := Lib.hid (below_next' HK.out.1 (below_next HA8.out.2.2.2.2.2.2 hb11))
                clear hfacts7 hdf7 hb11
                go_wp2_with fail
                refine bodyPost_ret (v := .bool true) (by simp [results, Try.results11, go_sem, e6]) hdd ⟨rfl, HR.out⟩
      · rw [decide_eq_false hf3]
        go_wp2
        go_ret
        exact ⟨rfl, below_next' HX.out.1 H3.out⟩
    · rw [decide_eq_false hf2]
      go_wp2
      go_ret
      exact ⟨rfl, below_next' HX.out.1 H2.out⟩
  · rw [decide_eq_false hf1]
    go_wp2
    go_ret
    exact ⟨rfl, below_next' HX.out.1 H1.out⟩

end Go.Proofs.Ytjnaibeebijkaaa
