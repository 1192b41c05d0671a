/-
  The walk of the law RationalForms. Condition: the table of powers of ten reads as it is laid.
-/
import Derived.Test.YtafhepbplffmeaaDoorF9
import Derived.Test.YtafhepbplffmeaaDoorQ14
namespace Go.Proofs.YtafhepbplffmeaaDoor
open Go.RowKit Num

theorem quo_nat (f : Nat) : quo (f : Int) 1 = rat false f 1 := by
  unfold quo
  rw [decide_eq_false (by omega)]
  rfl
theorem sz_quo {f : Nat} (h : f ≤ 1000) : Sz (quo (f : Int) 1) 1 := by
  rw [quo_nat]
  exact sz_rat (by rw [show pw 1 = 1000000000 from rfl]; omega) (by decide) (by omega)
theorem prod_nat (a f : Nat) : rat false a 1 * quo (f : Int) 1 = rat false (a * f) 1 := by
  rw [quo_nat, rat_mul]; rfl
theorem whole_nat (a : Nat) : (rat false a 1).num = a ∧ (rat false a 1).den = 1 := by
  have e : rat false a 1 = (a : Int) := by unfold rat; simp [Rat.mkRat_one]
  rw [e]
  exact ⟨Rat.num_intCast _, Rat.den_intCast _⟩

/-- Regions 5 and 6: the slots from b on; c is the new box. -/
def mkK (x : Rat) (f a b c B : Nat) : Tmp → Kd := fun t => if t = 3 then .val (.int .u32 f) else if t = 9 then .boxC 9 x else if t = c then .new B else if t = b + 3 then .rat 9 (rat false a 1) else if t = b + 4 then .val (.int .u32 f) else if t = b + 5 then .val (.int .i64 f)
  else if t = b + 6 then .ratC 1 (quo f 1) else if t = b + 7 then .ratC 11 (rat false a 1 * quo f 1) else .any
def mkE (j a b : Nat) : Tmp → Kx := fun t => if t = b then .adN j a else if t = b + 1 then .nt a else if t = b + 2 then .nt 1 else .no

theorem boxC_nat {w : World} {g a f : Nat} (h : (Kd.boxC 11 (rat false a 1 * quo f 1)).holds w (.pointer (some ⟨g, 0, none⟩))) :
    ∃ xa n c l, w.cell? ⟨g, 1, none⟩ = some (.slice xa n c) ∧ Lim w (.slice xa n c) l ∧ l.length = n ∧ l.length ≤ 11 ∧ Lo l ∧ val l = a * f := by
  obtain ⟨b, x0, x1, x2, e, c0, c1, c2, ⟨an, ln, cn, ad, ld, cd, hv, hn, hd2⟩, hs⟩ := h
  simp only [Value.pointer.injEq, Option.some.injEq, Addr.mk.injEq, and_true] at e
  subst e
  simp only [Value.agg.injEq, Array.mk.injEq, List.cons.injEq, and_true] at hv
  obtain ⟨rfl, rfl, rfl⟩ := hv
  rw [prod_nat] at hn hs
  have hnum : (rat false (a * f) 1).num.natAbs = a * f := by rw [(whole_nat _).1]; exact Int.natAbs_natCast _
  obtain ⟨l, h1, h2, h3⟩ := hn
  rw [hnum] at h3
  have hk := hs.1
  rw [hnum, ← h3] at hk
  have hlen : l.length = ln := by
    obtain ⟨_, _, e, _⟩ := h1
    simp only [Value.slice.injEq] at e
    exact e.2.1.symm
  exact ⟨an, ln, cn, l, c1, h1, hlen, cano_len h2 hk, h2.1, h3⟩

theorem rat_scale (s : Bool) (a d f : Nat) (hf : 0 < f) : rat s (a * f) (d * f) = rat s a d := by
  unfold rat
  have e : (if s = true then -((a * f : Nat) : Int) else ((a * f : Nat) : Int)) = (if s = true then -(a : Int) else (a : Int)) * (f : Int) := by
    cases s
    · simp
    · simp [Int.neg_mul]
  rw [e]
  exact Rat.mkRat_mul_right (by omega)
theorem BoxV.set1 {w : World} {B g t : Nat} {x y z : Value} (h : BoxV w B g t [x, y, z]) (u : Value) : BoxV (w.setCell ⟨g, 1, none⟩ u) B g t [x, u, z] ∧ w.grownBy (w.setCell ⟨g, 1, none⟩ u) (some g) := World.ownsRow.stored h 1 u
theorem BoxV.set2 {w : World} {B g t : Nat} {x y z : Value} (h : BoxV w B g t [x, y, z]) (u : Value) : BoxV (w.setCell ⟨g, 2, none⟩ u) B g t [x, y, u] ∧ w.grownBy (w.setCell ⟨g, 2, none⟩ u) (some g) := World.ownsRow.stored h 2 u
theorem beq_selfI (a : Int) : (a == a) = true := by simp
theorem val_behind (l : List Nat) (z : Nat) : val (l ++ List.replicate z 0) = val l := val_tail l (val_replicate z)

def formsL (x y : Rat) : Tmp → Kd := fun t => ([.any, .any, .any, .any, .box 9 x, .box 9 y, .any, .any, .val (.bool true), .boxC 9 x, .box 14 x, .any, .any, .any, .any, .any, .any, .any, .any, .any, .any, .any, .any, .any, .any, .any, .any, .any, .any, .any, .any, .any, .any, .any, .any, .any, .any, .any, .any, .any, .any, .any, .any, .any, .any, .any, .any, .any, .any, .any, .any, .any, .any, .any, .any, .any, .any, .any, .any, .any, .any, .any, .any, .any, .any, .any, .any, .any, .any, .any, .any, .any, .any, .any, .any, .any, .any, .any, .any, .rat 14 x, .ratC 14 x, .ratC 9 x, .val (.bool true), .val (.bool true), .rat 14 x, .rat 9 y, .ratC 24 (x + y), .rat 9 x, .rat 9 y, .ratC 19 (x + y), .val (.bool true), .val (.bool true), .val (.bool true), .rat 14 x, .rat 9 y, .val (.int .i64 (cmpQ x y)), .rat 9 x, .rat 9 y, .val (.int .i64 (cmpQ x y)), .val (.bool true), .val (.bool true), .val (.bool true), .rat 14 x, .val (.string ⟨(qtxt x).toArray⟩), .rat 9 x, .val (.string ⟨(qtxt x).toArray⟩), .val (.bool true), .val (.bool true), .val (.bool true), .val (.bool true), .val (.bool true)] : List Kd).getD t .any

set_option maxRecDepth 100000 in
set_option maxHeartbeats 4000000 in
theorem forms_go {na nb : Bool} {an ad bn bd : Option Addr} {n1 s1 n2 s2 m1 t1 m2 t2 k1 k2 : Nat} {x y : Rat} {z f : Nat} (w : World)
    (hx : RatV w na an n1 s1 ad n2 s2 k1 x) (hy : RatV w nb bn m1 t1 bd m2 t2 k2 y) (hz : z ≤ 3) (hf0 : 1 ≤ f) (hf1 : f ≤ 1000) (htab : TabP w.heap.size w) :
    Calls Tryd.prog 5 #[.agg #[.bool na, .slice an n1 s1, .slice ad n2 s2], .agg #[.bool nb, .slice bn m1 t1, .slice bd m2 t2], .int .i64 z, .int .u32 f] w (TrueP w) := by
  have HA := Lib.hid (And.intro hx hy)
  have HTab := Lib.hid htab
  clear hx hy htab
  go_enter Tryd.func5, Tryd.ntmps5
  go_wp2_with fail
  obtain ⟨W0, hW0⟩ : ∃ W0, (w.alloc (.cells #[.bool na, .slice an n1 s1, .slice ad n2 s2] 24)).alloc (.cells #[.bool nb, .slice bn m1 t1, .slice bd m2 t2] 24) = W0 := ⟨_, rfl⟩
  have hbw : Below w.heap.size w W0 := by rw [← hW0]; exact below_alloc2 _ _ _
  obtain ⟨hb0, hb1⟩ := alloc2_box w [.bool na, .slice an n1 s1, .slice ad n2 s2] [.bool nb, .slice bn m1 t1, .slice bd m2 t2] 24
  simp only [hW0] at hb0 hb1
  rw [hW0]
  clear hW0
  have HX := Lib.hid (And.intro hbw (And.intro hb0 hb1))
  clear hbw hb0 hb1
  refine (keepRat_any _ _ _ _ _ _ _ W0).mono ?_
  rintro e w1 ⟨rfl, hw1⟩
  have H1 := Lib.hid hw1
  obtain ⟨x3, x4, x5, _⟩ := keep3 HX.out.2.2 hw1
  clear hw1
  by_cases hg1 : n1 ≤ 8 ∧ n2 ≤ 8
  · rw [decide_eq_true hg1]
    have F1 := Lib.hid hg1
    clear hg1
    go_wp2_with fail
    refine (keepRat_any _ _ _ _ _ _ _ w1).mono ?_
    rintro e w2 ⟨rfl, hw2⟩
    have H2 := Lib.hid (below_next H1.out hw2)
    obtain ⟨x0, x1, x2, _⟩ := keep3 HX.out.2.1 H2.out
    clear hw2 H1 x3 x4 x5
    by_cases hg2 : m1 ≤ 8 ∧ m2 ≤ 8
    · rw [decide_eq_true hg2]
      have F2 := Lib.hid hg2
      clear hg2
      have hf3 : ((f : Int) == 0) = false := by rw [beq_eq_false_iff_ne]; omega
      have hf4 : ¬ (1000 : Int) < (f : Int) := by omega
      have hz4 : ¬ (3 : Int) < (z : Int) := by omega
      have hbw2 := below_next' HX.out.1 H2.out
      have hrx := (HA.out.1.le F1.out.1 F1.out.2).below hbw2
      have hry := (HA.out.2.le F2.out.1 F2.out.2).below hbw2
      have HR := Lib.hid (And.intro hrx (And.intro hry hbw2))
      clear hrx hry hbw2
      go_wp2_with fail
      refine (refSign_a HR.out.1.a (by omega)).mono ?_
      rintro e w3 ⟨rfl, hw3⟩
      have H3 := Lib.hid (below_next H2.out hw3)
      have HR3 := Lib.hid (And.intro (HR.out.1.below hw3) (And.intro (HR.out.2.1.below hw3) (below_next' HR.out.2.2 hw3)))
      obtain ⟨x0, x1, x2, _⟩ := keep3 HX.out.2.1 H3.out
      clear hw3 H2 HR
      by_cases hs0 : sgn x = 0
      · have hs1 : (sgn x == 0) = true := by rw [beq_iff_eq]; exact hs0
        clear hs0
        go_wp2
        go_ret
        exact ⟨rfl, HR3.out.2.2⟩
      · have hs1 : (sgn x == 0) = false := by rw [beq_eq_false_iff_ne]; exact hs0
        clear hs0
        go_wp2_with fail
        refine (Canonical_any _ 8 x w3 HR3.out.1.a (by omega)).mono ?_
        rintro e w4 ⟨v4, rfl, hc4, hb4⟩
        have hc4' := hc4
        obtain ⟨vn, ln, cn, vd, ld, cd, rfl, hn4, hd4⟩ := hc4
        obtain ⟨s, hs⟩ : ∃ s, decide (x.num < 0) = s := ⟨_, rfl⟩
        rw [hs] at hc4' ⊢
        obtain ⟨W5, hW5⟩ : ∃ W5, (w4.alloc (.cells #[.bool s, .slice vn ln cn, .slice vd ld cd] 24)).alloc (.cells #[.bool s, .slice none 0 0, .slice none 0 0] 24) = W5 := ⟨_, rfl⟩
        have hb5 : Below w4.heap.size w4 W5 := by rw [← hW5]; exact below_alloc2 _ _ _
        obtain ⟨hbv, hbu⟩ := alloc2_box w4 [.bool s, .slice vn ln cn, .slice vd ld cd] [.bool s, .slice none 0 0, .slice none 0 0] 24
        simp only [hW5] at hbv hbu
        have k0 : (w4.alloc (.cells #[.bool s, .slice vn ln cn, .slice vd ld cd] 24)).cell? ⟨w4.heap.size, 0, none⟩ = some (.bool s) := (BoxV.new w4 w4.heap.size 24 (Nat.le_refl _) [.bool s, .slice vn ln cn, .slice vd ld cd]).cell 0 (by simp)
        have hsx := HR3.out.1.sz
        have hkv := boxC_of (k := 9) hbv (hc4'.below hb5) hsx
        have hb35 := below_next hb4 hb5
        have HC := Lib.hid (And.intro (below_next' HR3.out.2.2 hb35) (And.intro hkv (And.intro hbu (And.intro (And.intro (HR3.out.1.below hb35) (HR3.out.2.1.below hb35)) (And.intro hsx.1 (And.intro hsx.2 (And.intro hs (And.intro (HX.out.2.1.below (below_next H3.out hb35)) (HX.out.2.2.below (below_next H3.out hb35))))))))))
        have HW5 := Lib.hid hW5
        have HLT := Lib.hid (show w.heap.size + 1 < w4.heap.size by have h1 := (HX.out.2.2.below (below_next H3.out hb4)).block.2; exact h1)
        clear hc4' hn4 hd4 hb4 hb5 hbv hbu hkv hsx hb35 hs x0 x1 x2 HR3 H3 hW5
        go_wp2_with fail
        rw [HW5.out]
        refine region_flow_tail (Fx (mkK x f x.num.natAbs 47 11 W5.heap.size) (mkE 1 x.num.natAbs 47)) (by rfl) (fun t w w' v hb h => Fx.below hb h) 111 9 [11] (by rfl) (by kernel_rfl) (by kernel_rfl) (by kernel_rfl) (by kernel_rfl) ?hN5 [3, 9] (by kernel_rfl) ?h05 (fun t v h => Fx.draw _ _ _ h) ?steps5 ?fin5
        case hN5 =>
          intro t ht w v hv
          simp only [List.mem_cons, List.not_mem_nil, or_false] at ht
          subst ht
          obtain ⟨g, e, hb⟩ := hv.1
          exact ⟨g, e, hb.block.2⟩
        case h05 =>
          intro t ht
          simp only [List.mem_cons, List.not_mem_nil, or_false] at ht
          rcases ht with rfl | rfl
          · exact ⟨rfl, trivial⟩
          · exact ⟨HC.out.2.1, trivial⟩
        case steps5 =>
          exact ⟨flowN_of (fx_field (.inl rfl) rfl rfl rfl) (by decide),
            flowN_of (fx_load rfl rfl rfl) (by decide),
            flowN_of (fx_one rfl rfl) (by decide),
            flowN_of (fx_build rfl rfl rfl rfl HC.out.2.2.2.2.1 (by omega)) (by decide),
            flowN_of (fx_lift (fl_move guard_none rfl) (fun d hd => by cases hd; rfl)) (by decide),
            flowN_of (fx_lift (fl_conv guard_none rfl rfl hf1) (fun d hd => by cases hd; rfl)) (by decide),
            flowN_of (fx_lift (fl_fromIntT rfl rfl (by omega) (by omega) (sz_quo hf1)) (fun d hd => by cases hd; rfl)) (by decide),
            flowN_of (fx_lift (fl_mul guard_none (.inl rfl) (.inr rfl) rfl (by omega)) (fun d hd => by cases hd; rfl)) (by decide),
            fxN_lift (fl_new rfl) (fun d hd => by cases hd; rfl), trivial⟩
        case fin5 =>
          intro a w6 hb6 hsz hdf hfacts hout hap
          have f11 : (Kd.new W5.heap.size).holds w6 (a.tmps.getD 11 undef) := (hfacts 8 11 (by decide) rfl).1
          have f54 : (Kd.ratC 11 (rat false x.num.natAbs 1 * quo f 1)).holds w6 (a.tmps.getD 54 undef) := (hfacts 7 54 (by decide) rfl).1
          have e2 : a.tmps.getD 2 undef = .int .i64 z := hout 2 (free_of (by kernel_rfl))
          have e3 : a.tmps.getD 3 undef = .int .u32 f := hout 3 (free_of (by kernel_rfl))
          have e4 : a.tmps.getD 4 undef = .pointer (some ⟨w.heap.size, 0, none⟩) := hout 4 (free_of (by kernel_rfl))
          have e5 : a.tmps.getD 5 undef = .pointer (some ⟨w.heap.size + 1, 0, none⟩) := hout 5 (free_of (by kernel_rfl))
          have e9 : a.tmps.getD 9 undef = .pointer (some ⟨w4.heap.size, 0, none⟩) := hout 9 (free_of (by kernel_rfl))
          have e10 : a.tmps.getD 10 undef = .pointer (some ⟨w4.heap.size + 1, 0, none⟩) := hout 10 (free_of (by kernel_rfl))
          have hsz' : a.tmps.size = 111 := hsz
          have hdf' : a.defers = [] := hdf
          obtain ⟨g11, e11, hB11⟩ := id f11
          have hg11 := hB11.block
          change runFrom _ _ _ 1 9 a w6
          simp only [runFrom]
          refine store_one (t := 11) (u := 54) rfl f11 f54 fun w7 keep7 b7 bel7 => ?_
          have h57 : Below W5.heap.size W5 w7 := bel7 _ hb6
          rw [e11] at b7
          have hg7 : g11 < w7.heap.size := by
            obtain ⟨g', _, _, _, e', c0, _⟩ := id b7
            simp only [Value.pointer.injEq, Option.some.injEq, Addr.mk.injEq, and_true] at e'
            subst e'
            exact World.block_lt_of_cell? _ _ c0
          have HE := Lib.hid (And.intro e2 (And.intro e3 (And.intro e4 (And.intro e5 (And.intro e9 (And.intro e10 (And.intro e11 (And.intro hsz' hdf'))))))))
          have H7 := Lib.hid (And.intro b7 (And.intro h57 (And.intro hg11.1 hg7)))
          clear f11 f54 e2 e3 e4 e5 e9 e10 e11 hsz' hdf' hB11 hg11 keep7 b7 bel7 h57 hg7 hfacts hout hap hb6 hsz hdf
          go_wp2_with fail
          refine region_flow_tail (Fx (mkK x f x.den 55 12 w7.heap.size) (mkE 2 x.den 55)) (by rfl) (fun t w w' v hb h => Fx.below hb h) 111 9 [12] HE.out.2.2.2.2.2.2.2.1 (by kernel_rfl) (by kernel_rfl) (by kernel_rfl) (by kernel_rfl) ?hN6 [3, 9] (by kernel_rfl) ?h06 (fun t v h => Fx.draw _ _ _ h) ?steps6 ?fin6
          case hN6 =>
            intro t ht w v hv
            simp only [List.mem_cons, List.not_mem_nil, or_false] at ht
            subst ht
            obtain ⟨g, e, hb⟩ := hv.1
            exact ⟨g, e, hb.block.2⟩
          case h06 =>
            intro t ht
            simp only [List.mem_cons, List.not_mem_nil, or_false] at ht
            rcases ht with rfl | rfl
            · exact ⟨HE.out.2.1, trivial⟩
            · refine ⟨?_, trivial⟩
              show (Kd.boxC 9 x).holds w7 _
              rw [HE.out.2.2.2.2.1]
              exact Kd.below (κ := .boxC 9 x) H7.out.2.1 HC.out.2.1
          case steps6 =>
            exact ⟨flowN_of (fx_field (.inr rfl) rfl rfl rfl) (by decide),
              flowN_of (fx_load rfl rfl rfl) (by decide),
              flowN_of (fx_one rfl rfl) (by decide),
              flowN_of (fx_build rfl rfl rfl rfl HC.out.2.2.2.2.2.1 (by omega)) (by decide),
              flowN_of (fx_lift (fl_move guard_none rfl) (fun d hd => by cases hd; rfl)) (by decide),
              flowN_of (fx_lift (fl_conv guard_none rfl rfl hf1) (fun d hd => by cases hd; rfl)) (by decide),
              flowN_of (fx_lift (fl_fromIntT rfl rfl (by omega) (by omega) (sz_quo hf1)) (fun d hd => by cases hd; rfl)) (by decide),
              flowN_of (fx_lift (fl_mul guard_none (.inl rfl) (.inr rfl) rfl (by omega)) (fun d hd => by cases hd; rfl)) (by decide),
              fxN_lift (fl_new rfl) (fun d hd => by cases hd; rfl), trivial⟩
          case fin6 =>
            intro a6 w8 hb8 hsz hdf hfacts hout hap
            have f12 : (Kd.new w7.heap.size).holds w8 (a6.tmps.getD 12 undef) := (hfacts 8 12 (by decide) rfl).1
            have f62 : (Kd.ratC 11 (rat false x.den 1 * quo f 1)).holds w8 (a6.tmps.getD 62 undef) := (hfacts 7 62 (by decide) rfl).1
            have e2 := (hout 2 (free_of (by kernel_rfl))).trans HE.out.1
            have e3 := (hout 3 (free_of (by kernel_rfl))).trans HE.out.2.1
            have e4 := (hout 4 (free_of (by kernel_rfl))).trans HE.out.2.2.1
            have e5 := (hout 5 (free_of (by kernel_rfl))).trans HE.out.2.2.2.1
            have e9 := (hout 9 (free_of (by kernel_rfl))).trans HE.out.2.2.2.2.1
            have e10 := (hout 10 (free_of (by kernel_rfl))).trans HE.out.2.2.2.2.2.1
            have e11 := (hout 11 (free_of (by kernel_rfl))).trans HE.out.2.2.2.2.2.2.1
            have hsz' : a6.tmps.size = 111 := hsz.trans HE.out.2.2.2.2.2.2.2.1
            have hdf' : a6.defers = [] := hdf.trans HE.out.2.2.2.2.2.2.2.2
            obtain ⟨g12, e12, hB12⟩ := id f12
            have hg12 := hB12.block
            change runFrom _ _ _ 1 9 a6 w8
            simp only [runFrom]
            refine store_one (t := 12) (u := 62) rfl f12 f62 fun w9 keep9 b9 bel9 => ?_
            have h79 : Below w7.heap.size w7 w9 := bel9 _ hb8
            rw [e12] at b9
            have h59 : Below W5.heap.size W5 w9 := below_next H7.out.2.1 h79
            have b11 : (Kd.boxC 11 (rat false x.num.natAbs 1 * quo f 1)).holds w9 (.pointer (some ⟨g11, 0, none⟩)) := Kd.below h79 H7.out.1
            have hU9 : BoxV w9 w4.heap.size (w4.heap.size + 1) 24 [.bool s, .slice none 0 0, .slice none 0 0] := HC.out.2.2.1.below h59
            have hX9 : (Kd.box 9 x).holds w9 (.pointer (some ⟨w.heap.size, 0, none⟩)) := box_of (HC.out.2.2.2.2.2.2.2.1.below h59) (HC.out.2.2.2.1.1.below h59)
            have hY9 : (Kd.box 9 y).holds w9 (.pointer (some ⟨w.heap.size + 1, 0, none⟩)) := box_of (HC.out.2.2.2.2.2.2.2.2.below h59) (HC.out.2.2.2.1.2.below h59)
            have hV9 : (Kd.boxC 9 x).holds w9 (.pointer (some ⟨w4.heap.size, 0, none⟩)) := Kd.below h59 HC.out.2.1
            have hgU := HC.out.2.2.1.block
            have hne12 : w4.heap.size + 1 < g12 := by have := H7.out.2.1.size; omega
            have hne11 : w4.heap.size + 1 < g11 := by have := H7.out.2.2.1; omega
            have hlt4 : w.heap.size + 1 < w4.heap.size := by
              have h1 := HC.out.2.2.2.2.2.2.2.2.block
              have h2 := HLT.out
              omega
            have H9 := Lib.hid (And.intro b11 (And.intro b9 (And.intro hU9 (And.intro hX9 (And.intro hY9 (And.intro hV9 (And.intro h59 (And.intro hne11 (And.intro hne12 hlt4)))))))))
            clear f12 f62 keep9 b9 bel9 h79 h59 b11 hU9 hX9 hY9 hV9 hne12 hne11 hlt4 hgU hfacts hout hap hb8 hsz hdf hB12 hg12
            obtain ⟨uu, hu⟩ : ∃ u : Nat → Value, ∀ t, a6.tmps.getD t undef = u t := ⟨_, fun _ => rfl⟩
            have ha := act_eq a6 111 hsz' hdf'
            simp only [hu] at ha e2 e3 e4 e5 e9 e10 e11 e12
            have ha' : a6 = ⟨#[uu 0, uu 1, uu 2, uu 3, uu 4, uu 5, uu 6, uu 7, uu 8, uu 9, uu 10, uu 11, uu 12, uu 13, uu 14, uu 15, uu 16, uu 17, uu 18, uu 19, uu 20, uu 21, uu 22, uu 23, uu 24, uu 25, uu 26, uu 27, uu 28, uu 29, uu 30, uu 31, uu 32, uu 33, uu 34, uu 35, uu 36, uu 37, uu 38, uu 39, uu 40, uu 41, uu 42, uu 43, uu 44, uu 45, uu 46, uu 47, uu 48, uu 49, uu 50, uu 51, uu 52, uu 53, uu 54, uu 55, uu 56, uu 57, uu 58, uu 59, uu 60, uu 61, uu 62, uu 63, uu 64, uu 65, uu 66, uu 67, uu 68, uu 69, uu 70, uu 71, uu 72, uu 73, uu 74, uu 75, uu 76, uu 77, uu 78, uu 79, uu 80, uu 81, uu 82, uu 83, uu 84, uu 85, uu 86, uu 87, uu 88, uu 89, uu 90, uu 91, uu 92, uu 93, uu 94, uu 95, uu 96, uu 97, uu 98, uu 99, uu 100, uu 101, uu 102, uu 103, uu 104, uu 105, uu 106, uu 107, uu 108, uu 109, uu 110], []⟩ := ha
            rw [e2, e3, e4, e5, e9, e10, e11, e12] at ha'
            clear ha hu e2 e3 e4 e5 e9 e10 e11 e12 hsz' hdf' HE
            subst ha'
            obtain ⟨⟨u0, u1, u2⟩, i0, i1, i2⟩ := H9.out.2.2.1.three
            obtain ⟨p1, pn, pc, l1, cc1, hl1, hln1, hlk1, hlo1, hv1⟩ := boxC_nat H9.out.1
            obtain ⟨r1, rn, rc, l2, cc2, hl2, hln2, hlk2, hlo2, hv2⟩ := boxC_nat H9.out.2.1
            have HL := Lib.hid (And.intro hl1 (And.intro hl2 (And.intro hlo1 (And.intro hlo2 (And.intro hv1 (And.intro hv2 (And.intro cc2 (And.intro hln1 hln2))))))))
            have hpn : pn ≤ 11 := by omega
            have hrn : rn ≤ 11 := by omega
            clear hl1 hl2 hlo1 hlo2 hv1 hv2 hln1 hln2 hlk1 hlk2 cc2
            go_wp2_with (at_builtin; refine wpList_append_lim rfl (.tmp 64) (.tmp 66) rfl w9.heap.size none 0 0 [] rfl (World.ownsRow_nil _ _ _ _) (Nat.le_refl _) p1 pn pc l1 rfl HL.out.2.2.2.2.2.2.2.1 HL.out.1 (by omega) (Nat.le_refl _) ?_)
            intro v10 w10 hown10 hgrow10
            have hz10 := hgrow10.size
            have H10 := Lib.hid (And.intro hown10 hgrow10)
            clear hown10 hgrow10
            go_wp2_with (at_builtin; refine wpList_append_zeros rfl (.tmp 67) (.tmp 68) rfl w9.heap.size v10 pn z l1 rfl rfl H10.out.1 HL.out.2.2.2.2.2.2.2.1 (by omega) (by omega) hz10 ?_)
            intro v11 w11 hown11 hgrow11
            have hb11 : Below w9.heap.size w9 w11 := ((Below.refl _ w9).grown H10.out.2 (Nat.le_refl _) (by simp [Value.ownBlock])).grown hgrow11 hz10 (fun k hk => (H10.out.1.lt k hk).1)
            have hlo11 : Lo (l1 ++ List.replicate z 0) := lo_append HL.out.2.2.1 (lo_replicate z)
            have hll11 : (l1 ++ List.replicate z 0).length = pn + z := by rw [List.length_append, List.length_replicate, HL.out.2.2.2.2.2.2.2.1]
            have hlim11 := lim_owns hown11 hll11 (fun i => Nat.lt_trans (hlo11 i) (by decide))
            obtain ⟨qa, qc, rfl, -⟩ := id hlim11
            rw [hll11] at hlim11 ⊢
            have hU11 := H9.out.2.2.1.below hb11
            have hU12 := BoxV.set1 hU11 (.slice qa (pn + z) qc)
            have hl12 := (HL.out.2.1.below hb11).otherBox hU11 (noLimb_rat _ _ _ _ _ _ _) hU12.2
            have hlim12 := hlim11.otherBox hU11 (noLimb_rat _ _ _ _ _ _ _) hU12.2
            have c12 : ∀ v, (w11.setCell ⟨w4.heap.size + 1, 1, none⟩ v).cell? ⟨g12, 1, none⟩ = some (.slice r1 rn rc) := fun v => by
              have hne : g12 ≠ w4.heap.size + 1 := by have := H9.out.2.2.2.2.2.2.2.2.1; omega
              exact (World.cell?_setCell_other w11 ⟨w4.heap.size + 1, 1, none⟩ ⟨g12, 1, none⟩ v (by simp)).trans (cell_below hb11 HL.out.2.2.2.2.2.2.1)
            obtain ⟨⟨u0, u1, u2⟩, i0, i1, i2⟩ := hU11.three
            have H12 := Lib.hid (And.intro hb11 (And.intro hU11 (And.intro hU12 (And.intro hl12 (And.intro hlim12 (And.intro hll11 (show val (l1 ++ List.replicate z 0) = x.num.natAbs * f by rw [val_behind]; exact HL.out.2.2.2.2.1)))))))
            have hz11 : w9.heap.size ≤ (w11.setCell ⟨w4.heap.size + 1, 1, none⟩ (.slice qa (pn + z) qc)).heap.size := by rw [World.size_setCell]; exact hb11.size
            have hbw12 : Below w4.heap.size w9 (w11.setCell ⟨w4.heap.size + 1, 1, none⟩ (.slice qa (pn + z) qc)) := by
              refine Below.setCell ?_ (by simp) _
              exact hb11.mono (by have := H9.out.2.2.1.block.2; omega)
            have HB12 := Lib.hid (And.intro hz11 hbw12)
            clear hown11 hgrow11 hb11 hlo11 hll11 hlim11 hU11 hU12 hl12 hlim12 hz10 hbw12
            have hsz12 : (w11.setCell ⟨w4.heap.size + 1, 1, none⟩ (.slice qa (pn + z) qc)).heap.size = w11.heap.size := World.size_setCell _ _ _
            have HS12 := Lib.hid hsz12
            go_wp2_with (at_builtin; refine wpList_append_lim rfl (.tmp 72) (.tmp 74) rfl w11.heap.size none 0 0 [] rfl (World.ownsRow_nil _ _ _ _) (Nat.le_refl _) r1 rn rc l2 rfl HL.out.2.2.2.2.2.2.2.2 H12.out.2.2.2.1 (by omega) (Nat.le_of_eq hsz12.symm) ?_)
            intro v13 w13 hown13 hgrow13
            have hz13 : w11.heap.size ≤ w13.heap.size := by have := hgrow13.size; rw [hsz12] at this; exact this
            have H13 := Lib.hid (And.intro hown13 hgrow13)
            clear hown13 hgrow13
            go_wp2_with (at_builtin; refine wpList_append_zeros rfl (.tmp 75) (.tmp 76) rfl w11.heap.size v13 rn z l2 rfl rfl H13.out.1 HL.out.2.2.2.2.2.2.2.2 (by omega) (by omega) hz13 ?_)
            intro v14 w14 hown14 hgrow14
            have hb14 : Below w11.heap.size (w11.setCell ⟨w4.heap.size + 1, 1, none⟩ (.slice qa (pn + z) qc)) w14 := ((Below.refl _ _).grown H13.out.2 (Nat.le_of_eq HS12.out.symm) (by simp [Value.ownBlock])).grown hgrow14 hz13 (fun k hk => (H13.out.1.lt k hk).1)
            have hb14' : Below (w11.setCell ⟨w4.heap.size + 1, 1, none⟩ (.slice qa (pn + z) qc)).heap.size (w11.setCell ⟨w4.heap.size + 1, 1, none⟩ (.slice qa (pn + z) qc)) w14 := by rw [HS12.out]; exact hb14
            have hlo14 : Lo (l2 ++ List.replicate z 0) := lo_append HL.out.2.2.2.1 (lo_replicate z)
            have hll14 : (l2 ++ List.replicate z 0).length = rn + z := by rw [List.length_append, List.length_replicate, HL.out.2.2.2.2.2.2.2.2]
            have hlim14 := lim_owns hown14 hll14 (fun i => Nat.lt_trans (hlo14 i) (by decide))
            obtain ⟨ra, rq, rfl, -⟩ := id hlim14
            rw [hll14] at hlim14 ⊢
            have hU14 := H12.out.2.2.1.1.below hb14'
            have hU15 := BoxV.set2 hU14 (.slice ra (rn + z) rq)
            have hA := (H12.out.2.2.2.2.1.below hb14').otherBox hU14 (noLimb_rat _ _ _ _ _ _ _) hU15.2
            have hB := hlim14.otherBox hU14 (noLimb_rat _ _ _ _ _ _ _) hU15.2
            obtain ⟨⟨u0, u1, u2⟩, i0, i1, i2⟩ := hU14.three
            obtain ⟨W15, hW15⟩ : ∃ W15, w14.setCell ⟨w4.heap.size + 1, 2, none⟩ (.slice ra (rn + z) rq) = W15 := ⟨_, rfl⟩
            have keep : ∀ (κ : Kd) (v : Value), κ.holds w9 v → v ≠ .pointer (some ⟨w4.heap.size + 1, 0, none⟩) → κ.holds W15 v := by
              intro κ v h hne
              rw [← hW15]
              exact Kd.kept (Kd.below hb14' (Kd.kept (Kd.below H12.out.1 h) H12.out.2.1 (noLimb_rat _ _ _ _ _ _ _) H12.out.2.2.1.2 hne)) hU14 (noLimb_rat _ _ _ _ _ _ _) hU15.2 hne
            have hlt4 := H9.out.2.2.2.2.2.2.2.2.2
            have kX := keep _ _ H9.out.2.2.2.1 (by intro e; simp only [Value.pointer.injEq, Option.some.injEq, Addr.mk.injEq, and_true] at e; omega)
            have kY := keep _ _ H9.out.2.2.2.2.1 (by intro e; simp only [Value.pointer.injEq, Option.some.injEq, Addr.mk.injEq, and_true] at e; omega)
            have kV := keep _ _ H9.out.2.2.2.2.2.1 (by simp)
            have hbw15 : Below w.heap.size w W15 := by
              rw [← hW15]
              have h9 := below_next' HC.out.1 H9.out.2.2.2.2.2.2.1
              have h11 := (below_next' h9 H12.out.1).setCell (p := ⟨w4.heap.size + 1, 1, none⟩) (by simp; omega) (.slice qa (pn + z) qc)
              exact (below_next' h11 hb14').setCell (p := ⟨w4.heap.size + 1, 2, none⟩) (by simp; omega) (.slice ra (rn + z) rq)
            rw [hW15] at hU15 hA hB
            have hval2 : val (l2 ++ List.replicate z 0) = x.den * f := by rw [val_behind]; exact HL.out.2.2.2.2.2.1
            have hxq : x = rat s (val (l1 ++ List.replicate z 0)) (val (l2 ++ List.replicate z 0)) := by
              rw [H12.out.2.2.2.2.2.2, hval2, rat_scale _ _ _ _ (by omega), ← HC.out.2.2.2.2.2.2.1]
              exact (rat_self x).symm
            have hR : RatV W15 s qa (pn + z) qc ra (rn + z) rq 14 x := ⟨_, _, H12.out.2.2.2.2.2.1, hll14, hA, hB, by omega, by omega, hxq⟩
            obtain ⟨⟨y0, y1, y2⟩, _⟩ := hU15.1.three
            have kU : (Kd.box 14 x).holds W15 (.pointer (some ⟨w4.heap.size + 1, 0, none⟩)) := ⟨_, _, _, _, rfl, y0, y1, y2, hR.a, ⟨Nat.lt_of_lt_of_le HC.out.2.2.2.2.1 (pw_le (by omega)), Nat.lt_of_lt_of_le HC.out.2.2.2.2.2.1 (pw_le (by omega))⟩⟩
            have HK := Lib.hid (And.intro hbw15 (And.intro kX (And.intro kY (And.intro kV (And.intro kU (TabF.below ⟨HTab.out, Nat.le_refl _⟩ hbw15))))))
            have HW15 := Lib.hid hW15
            clear hb14 hb14' hlo14 hll14 hlim14 hU14 hU15 hA hB hW15 keep hlt4 kX kY kV hbw15 hval2 hxq hR y0 y1 y2 kU hown14 hgrow14 hz13
            go_wp2_with fail
            rw [HW15.out]
            refine region_flow (Ft w.heap.size (formsL x y)) (by rfl) (fun t w w' v hb h => Ft.below hb h) 111 (by rfl) (by kernel_rfl) (by kernel_rfl) [4, 5, 9, 10] (by kernel_rfl) ?h09 (fun t v h => Ft.draw _ _ _ h) ?steps9 ?fin9
            case h09 =>
              intro t ht
              simp only [List.mem_cons, List.not_mem_nil, or_false] at ht
              rcases ht with rfl | rfl | rfl | rfl
              · exact ⟨HK.out.2.1, HK.out.2.2.2.2.2⟩
              · exact ⟨HK.out.2.2.1, HK.out.2.2.2.2.2⟩
              · exact ⟨HK.out.2.2.2.1, HK.out.2.2.2.2.2⟩
              · exact ⟨HK.out.2.2.2.2.1, HK.out.2.2.2.2.2⟩
            case steps9 =>
              exact ⟨ft_lift (fl_load guard_none rfl rfl) ⟨10, .inl (by simp [Op.operands])⟩,
                ft_lift (fl_canon guard_none (.inl rfl) rfl (by omega)) ⟨79, .inl (by simp [Op.operands, Call.operands])⟩,
                ft_lift (fl_loadC guard_none rfl rfl) ⟨9, .inl (by simp [Op.operands])⟩,
                ft_lift (fl_same guard_none rfl rfl rfl (same_iff rfl) (by omega)) ⟨80, .inl (by simp [Op.operands, Call.operands])⟩,
                ft_lift (fl_move guard_none rfl) ⟨82, .inl (by simp [Op.operands])⟩,
                ft_lift (fl_load (guard_true (s := 83) rfl rfl) rfl rfl) ⟨10, .inl (by simp [Op.operands])⟩,
                ft_lift (fl_load (guard_true (s := 83) rfl rfl) rfl rfl) ⟨5, .inl (by simp [Op.operands])⟩,
                ft_lift (fl_add (guard_true (s := 83) rfl rfl) (.inl rfl) (.inl rfl) rfl (by omega)) ⟨84, .inl (by simp [Op.operands, Call.operands])⟩,
                ft_lift (fl_load (guard_true (s := 83) rfl rfl) rfl rfl) ⟨4, .inl (by simp [Op.operands])⟩,
                ft_lift (fl_load (guard_true (s := 83) rfl rfl) rfl rfl) ⟨5, .inl (by simp [Op.operands])⟩,
                ft_lift (fl_add (guard_true (s := 83) rfl rfl) (.inl rfl) (.inl rfl) rfl (by omega)) ⟨87, .inl (by simp [Op.operands, Call.operands])⟩,
                ft_lift (fl_same (guard_true (s := 83) rfl rfl) rfl rfl rfl (same_iff rfl) (by omega)) ⟨86, .inl (by simp [Op.operands, Call.operands])⟩,
                ft_lift (fl_and guard_none rfl rfl) ⟨83, .inl (by simp [Op.operands])⟩,
                ft_lift (fl_move guard_none rfl) ⟨91, .inl (by simp [Op.operands])⟩,
                ft_lift (fl_load (guard_true (s := 92) rfl rfl) rfl rfl) ⟨10, .inl (by simp [Op.operands])⟩,
                ft_lift (fl_load (guard_true (s := 92) rfl rfl) rfl rfl) ⟨5, .inl (by simp [Op.operands])⟩,
                ft_lift (fl_cmp (guard_true (s := 92) rfl rfl) (.inl rfl) (.inl rfl) rfl rfl (by omega)) ⟨93, .inl (by simp [Op.operands, Call.operands])⟩,
                ft_lift (fl_load (guard_true (s := 92) rfl rfl) rfl rfl) ⟨4, .inl (by simp [Op.operands])⟩,
                ft_lift (fl_load (guard_true (s := 92) rfl rfl) rfl rfl) ⟨5, .inl (by simp [Op.operands])⟩,
                ft_lift (fl_cmp (guard_true (s := 92) rfl rfl) (.inl rfl) (.inl rfl) rfl rfl (by omega)) ⟨96, .inl (by simp [Op.operands, Call.operands])⟩,
                ft_lift (fl_eql2 (guard_true (s := 92) rfl rfl) rfl rfl rfl (beq_selfI _)) ⟨95, .inl (by simp [Op.operands])⟩,
                ft_lift (fl_and guard_none rfl rfl) ⟨92, .inl (by simp [Op.operands])⟩,
                ft_lift (fl_move guard_none rfl) ⟨100, .inl (by simp [Op.operands])⟩,
                ft_lift (fl_load (guard_true (s := 101) rfl rfl) rfl rfl) ⟨10, .inl (by simp [Op.operands])⟩,
                ft_format (guard_true (s := 101) rfl rfl) (.inl rfl) rfl (by omega),
                ft_lift (fl_load (guard_true (s := 101) rfl rfl) rfl rfl) ⟨4, .inl (by simp [Op.operands])⟩,
                ft_format (guard_true (s := 101) rfl rfl) (.inl rfl) rfl (by omega),
                ft_lift (fl_seq (guard_true (s := 101) rfl rfl) rfl rfl rfl) ⟨103, .inl (by simp [Op.operands])⟩,
                ft_lift (fl_and guard_none rfl rfl) ⟨101, .inl (by simp [Op.operands])⟩,
                ft_lift (fl_move guard_none rfl) ⟨107, .inl (by simp [Op.operands])⟩,
                ft_lift (fl_awake (guard_true (s := 108) rfl rfl) rfl) ⟨108, .inr ⟨_, rfl, rfl⟩⟩,
                ft_lift (fl_and guard_none rfl rfl) ⟨108, .inl (by simp [Op.operands])⟩,
                ft_lift (fl_assign guard_none rfl) ⟨110, .inl (by simp [Op.operands])⟩,
                trivial⟩
            case fin9 =>
              intro A7 w16 hb16 _ hdf7 hfacts7 _
              have e8 : A7.tmps[8]?.getD undef = .bool true := by rw [← Array.getD_eq_getD_getElem?]; exact (hfacts7 32 8 rfl).1
              have hdd : A7.defers = [] := by rw [hdf7]
              have HR := Lib.hid (below_next' HK.out.1 hb16)
              clear hfacts7 hdf7 hb16
              go_wp2_with fail
              refine bodyPost_ret (v := .bool true) (by simp [results, Tryd.results5, go_sem, e8]) hdd ⟨rfl, HR.out⟩
    · rw [decide_eq_false hg2]
      go_wp2
      go_ret
      exact ⟨rfl, below_next' HX.out.1 H2.out⟩
  · rw [decide_eq_false hg1]
    go_wp2
    go_ret
    exact ⟨rfl, below_next' HX.out.1 H1.out⟩

set_option maxRecDepth 100000 in
set_option maxHeartbeats 4000000 in
theorem forms_out {na nb : Bool} {an ad bn bd : Option Addr} {n1 s1 n2 s2 m1 t1 m2 t2 k1 k2 : Nat} {x y : Rat} {z f : Int} (w : World)
    (hx : RatV w na an n1 s1 ad n2 s2 k1 x) (hy : RatV w nb bn m1 t1 bd m2 t2 k2 y) (hf0 : 0 ≤ f) (hbad : z < 0 ∨ 3 < z ∨ f = 0 ∨ 1000 < f) :
    Calls Tryd.prog 5 #[.agg #[.bool na, .slice an n1 s1, .slice ad n2 s2], .agg #[.bool nb, .slice bn m1 t1, .slice bd m2 t2], .int .i64 z, .int .u32 f] w (TrueP w) := by
  have HA := Lib.hid (And.intro hx hy)
  clear hx hy
  go_enter Tryd.func5, Tryd.ntmps5
  go_wp2_with fail
  obtain ⟨W0, hW0⟩ : ∃ W0, (w.alloc (.cells #[.bool na, .slice an n1 s1, .slice ad n2 s2] 24)).alloc (.cells #[.bool nb, .slice bn m1 t1, .slice bd m2 t2] 24) = W0 := ⟨_, rfl⟩
  have hbw : Below w.heap.size w W0 := by rw [← hW0]; exact below_alloc2 _ _ _
  obtain ⟨hb0, hb1⟩ := alloc2_box w [.bool na, .slice an n1 s1, .slice ad n2 s2] [.bool nb, .slice bn m1 t1, .slice bd m2 t2] 24
  simp only [hW0] at hb0 hb1
  rw [hW0]
  clear hW0
  have HX := Lib.hid (And.intro hbw (And.intro hb0 hb1))
  clear hbw hb0 hb1
  refine (keepRat_any _ _ _ _ _ _ _ W0).mono ?_
  rintro e w1 ⟨rfl, hw1⟩
  have H1 := Lib.hid hw1
  obtain ⟨x3, x4, x5, _⟩ := keep3 HX.out.2.2 hw1
  clear hw1
  by_cases hg1 : n1 ≤ 8 ∧ n2 ≤ 8
  · rw [decide_eq_true hg1]
    clear hg1
    go_wp2_with fail
    refine (keepRat_any _ _ _ _ _ _ _ w1).mono ?_
    rintro e w2 ⟨rfl, hw2⟩
    have H2 := Lib.hid (below_next H1.out hw2)
    clear hw2 H1 x3 x4 x5
    by_cases hg2 : m1 ≤ 8 ∧ m2 ≤ 8
    · rw [decide_eq_true hg2]
      clear hg2
      by_cases c0 : z < 0
      · clear hbad
        go_wp2
        go_ret
        exact ⟨rfl, below_next' HX.out.1 H2.out⟩
      · by_cases c1 : 3 < z
        · clear hbad
          go_wp2
          go_ret
          exact ⟨rfl, below_next' HX.out.1 H2.out⟩
        · by_cases c2 : f = 0
          · have c3 : (f == 0) = true := by rw [beq_iff_eq]; exact c2
            clear hbad c2
            go_wp2
            go_ret
            exact ⟨rfl, below_next' HX.out.1 H2.out⟩
          · have c3 : (f == 0) = false := by rw [beq_eq_false_iff_ne]; exact c2
            have c4 : 1000 < f := by omega
            clear hbad c2
            go_wp2
            go_ret
            exact ⟨rfl, below_next' HX.out.1 H2.out⟩
    · rw [decide_eq_false hg2]
      clear hbad
      go_wp2
      go_ret
      exact ⟨rfl, below_next' HX.out.1 H2.out⟩
  · rw [decide_eq_false hg1]
    clear hbad
    go_wp2
    go_ret
    exact ⟨rfl, below_next' HX.out.1 H1.out⟩

theorem forms_walk {na nb : Bool} {an ad bn bd : Option Addr} {n1 s1 n2 s2 m1 t1 m2 t2 k1 k2 : Nat} {x y : Rat} {z f : Int} (w : World)
    (hx : RatV w na an n1 s1 ad n2 s2 k1 x) (hy : RatV w nb bn m1 t1 bd m2 t2 k2 y) (hf : 0 ≤ f) (htab : TabP w.heap.size w) :
    Calls Tryd.prog 5 #[.agg #[.bool na, .slice an n1 s1, .slice ad n2 s2], .agg #[.bool nb, .slice bn m1 t1, .slice bd m2 t2], .int .i64 z, .int .u32 f] w (TrueP w) := by
  by_cases hb : z < 0 ∨ 3 < z ∨ f = 0 ∨ 1000 < f
  · exact forms_out w hx hy hf hb
  · obtain ⟨a, rfl⟩ : ∃ a : Nat, z = a := ⟨z.toNat, by omega⟩
    obtain ⟨b, rfl⟩ : ∃ b : Nat, f = b := ⟨f.toNat, by omega⟩
    exact forms_go w hx hy (by omega) (by omega) (by omega) htab
end Go.Proofs.YtafhepbplffmeaaDoor
