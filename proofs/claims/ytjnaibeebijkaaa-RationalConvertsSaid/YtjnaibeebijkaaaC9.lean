/-
  The walk of the law RationalConverts. No conditions.
-/
import Derived.Test.YtjnaibeebijkaaaQ14
namespace Go.Proofs.Ytjnaibeebijkaaa
open Go.RowKit Num

theorem quo_sz {n m : Int} (h1 : -9223372036854775808 ≤ n) (h2 : n ≤ 9223372036854775807) (h3 : -9223372036854775808 ≤ m) (h4 : m ≤ 9223372036854775807) : Sz (quo n m) 3 := by
  unfold quo
  refine sz_rat ?_ ?_ (by omega)
  · exact Nat.lt_trans (show n.natAbs < 18446744073709551616 by omega) (by decide)
  · exact Nat.lt_trans (show m.natAbs < 18446744073709551616 by omega) (by decide)

theorem toI_quo {n : Int} (h1 : -9223372036854775808 ≤ n) (h2 : n ≤ 9223372036854775807) : toI (quo n 1) = (n, true) := by
  have e : quo n 1 = rat (decide (n < 0)) n.natAbs 1 := by
    unfold quo
    have : decide ((1 : Int) < 0) = false := rfl
    rw [this, Bool.bne_false]
    rfl
  have hd : (quo n 1).den = 1 := by rw [e]; exact (den_one_iff (by omega)).2 (Nat.mod_one _)
  have hn : (quo n 1).num = n := by
    rw [e, whole_num (by omega) (Nat.mod_one _), Nat.div_one]
    by_cases h : n < 0
    · rw [if_pos (decide_eq_true h)]; omega
    · rw [if_neg (by simpa using h)]; omega
  unfold toI
  rw [if_pos ⟨hd, by omega, by omega⟩, hn]

set_option maxRecDepth 100000 in
set_option maxHeartbeats 4000000 in
theorem converts_go (n a b : Int) {na : Bool} {an ad : Option Addr} {n1 s1 n2 s2 k1 : Nat} {x : Rat} (w : World) (g1 : -9223372036854775808 ≤ n) (g2 : n ≤ 9223372036854775807) (a1 : -9223372036854775808 ≤ a) (a2 : a ≤ 9223372036854775807)
    (b1 : -9223372036854775808 ≤ b) (b2 : b ≤ 9223372036854775807) (hx : RatV w na an n1 s1 ad n2 s2 k1 x) :
    Calls Try.prog 3 #[.int .i64 n, .int .i64 a, .int .i64 b, .agg #[.bool na, .slice an n1 s1, .slice ad n2 s2]] w (TrueP w) := by
  obtain ⟨r, hr⟩ : ∃ r, quo n 1 = r := ⟨_, rfl⟩
  obtain ⟨r2, hr2⟩ : ∃ r, quo a b = r := ⟨_, rfl⟩
  have c17 := fun W => fromInt_any n W g1 g2
  have c19 := fun W => refFromInt_any n W g1 g2
  have c20 := fun W => small_any a b W a1 a2 b1 b2
  have c21 := fun W => refSmall_any a b W a1 a2 b1 b2
  have hs := quo_sz g1 g2 (show -9223372036854775808 ≤ (1 : Int) by omega) (by omega)
  have hs2 := quo_sz a1 a2 b1 b2
  have ht := toI_quo g1 g2
  rw [hr] at c17 c19 hs ht
  rw [hr2] at c20 c21 hs2
  have c15 := fun (W : World) (v : Value) (hv : RatC W v r) => ratToInt_a (hv.a hs) (show 3 ≤ 50000 by omega)
  unfold ToIntP at c15
  rw [ht] at c15
  have s1 := fun (W : World) (u v : Value) (hu : RatC W u r) (hv : RatC W v r) => sameRat_any u v r r 3 W hu hv hs (by omega)
  have s2 := fun (W : World) (u v : Value) (hu : RatC W u r2) (hv : RatC W v r2) => sameRat_any u v r2 r2 3 W hu hv hs2 (by omega)
  have HC := Lib.hid (And.intro c17 (And.intro c19 (And.intro c20 (And.intro c21 (And.intro c15 (And.intro s1 s2))))))
  have HA := Lib.hid hx
  clear hx hr hr2 c17 c19 c20 c21 c15 s1 s2 hs hs2 ht
  go_enter Try.func3, Try.ntmps3
  go_wp2_with fail
  have hb0 := BoxV.new w w.heap.size 24 (Nat.le_refl _) [.bool na, .slice an n1 s1, .slice ad n2 s2]
  have HX := Lib.hid (And.intro hb0 (below_alloc1 w (.cells #[.bool na, .slice an n1 s1, .slice ad n2 s2] 24)))
  clear hb0
  refine (keepRat_any _ _ _ _ _ _ _ _).mono ?_
  rintro e w1 ⟨rfl, hw1⟩
  have H1 := Lib.hid hw1
  obtain ⟨x0, x1, x2, _⟩ := keep3 HX.out.1 hw1
  clear hw1
  by_cases hf : n1 ≤ 8 ∧ n2 ≤ 8
  · rw [decide_eq_true hf]
    have F1 := Lib.hid hf
    clear hf
    have hrx := (HA.out.le F1.out.1 F1.out.2).below (below_next' HX.out.2 H1.out)
    obtain ⟨zi, zb, hz⟩ : ∃ zi zb, toI x = (zi, zb) := ⟨_, _, rfl⟩
    have d1 := ratToInt_a hrx.a (show 8 ≤ 50000 by omega)
    have d2 := fun (W : World) (hW : Below w1.heap.size w1 W) => refToInt_a (hrx.below hW).a (show 8 ≤ 40000 by omega)
    unfold ToIntP at d1 d2
    rw [hz] at d1 d2
    have HD := Lib.hid (And.intro d1 d2)
    clear hrx d1 d2 hz
    go_wp2_with fail
    refine HD.out.1.mono ?_
    rintro e w2 ⟨rfl, hb2⟩
    have H2 := Lib.hid (And.intro hb2 (below_next H1.out hb2))
    clear hb2 x0 x1 x2
    obtain ⟨x0, x1, x2, _⟩ := keep3 HX.out.1 H2.out.2
    go_wp2_with fail
    refine (HD.out.2 _ H2.out.1).mono ?_
    rintro e w3 ⟨rfl, hb3⟩
    have H3 := Lib.hid (below_next H2.out.2 hb3)
    clear hb3 x0 x1 x2 H2
    go_wp2_with fail
    refine (HC.out.1 _).mono ?_
    rintro e w4 ⟨v, rfl, hv, hb4⟩
    have H4 := Lib.hid (And.intro hv (below_next H3.out hb4))
    obtain ⟨_, _, _, _, _, _, rfl, _⟩ := hv
    clear hb4 H3
    go_wp2_with fail
    refine (HC.out.2.2.2.2.1 _ _ H4.out.1).mono ?_
    rintro e w5 ⟨rfl, hb5⟩
    have H5 := Lib.hid (below_next H4.out.2 hb5)
    clear hb5
    go_wp2_with fail
    refine (HC.out.1 _).mono ?_
    rintro e w6 ⟨v, rfl, hv, hb6⟩
    have H6 := Lib.hid (And.intro hv (below_next H5.out hb6))
    obtain ⟨_, _, _, _, _, _, rfl, _⟩ := hv
    clear hb6
    go_wp2_with fail
    refine (HC.out.2.1 _).mono ?_
    rintro e w7 ⟨v, rfl, hv, hb7⟩
    have H7 := Lib.hid (And.intro (H6.out.1.below hb7) (And.intro hv (below_next H6.out.2 hb7)))
    obtain ⟨_, _, _, _, _, _, rfl, _⟩ := hv
    clear hb7
    go_wp2_with fail
    refine (HC.out.2.2.2.2.2.1 _ _ _ H7.out.1 H7.out.2.1).mono ?_
    rintro e w8 ⟨bb, rfl, hbb, hb8⟩
    obtain rfl : bb = true := hbb.2 trivial
    have H8 := Lib.hid (below_next H7.out.2.2 hb8)
    clear hb8 hbb
    go_wp2_with fail
    refine (HC.out.2.2.1 _).mono ?_
    rintro e w9 ⟨v, rfl, hv, hb9⟩
    have H9 := Lib.hid (And.intro hv (below_next H8.out hb9))
    obtain ⟨_, _, _, _, _, _, rfl, _⟩ := hv
    clear hb9
    go_wp2_with fail
    refine (HC.out.2.2.2.1 _).mono ?_
    rintro e w10 ⟨v, rfl, hv, hb10⟩
    have H10 := Lib.hid (And.intro (H9.out.1.below hb10) (And.intro hv (below_next H9.out.2 hb10)))
    obtain ⟨_, _, _, _, _, _, rfl, _⟩ := hv
    clear hb10
    go_wp2_with fail
    refine (HC.out.2.2.2.2.2.2 _ _ _ H10.out.1 H10.out.2.1).mono ?_
    rintro e w11 ⟨bb, rfl, hbb, hb11⟩
    obtain rfl : bb = true := hbb.2 trivial
    have H11 := Lib.hid (below_next H10.out.2.2 hb11)
    clear hb11 hbb
    have hz1 : (zi == zi) = true := beq_self_eq_true zi
    have hz2 : (zb == zb) = true := beq_self_eq_true zb
    have hz3 : (n == n) = true := beq_self_eq_true n
    go_wp2_with fail
    refine (awake_any _).mono ?_
    rintro e w12 ⟨rfl, hb12⟩
    have H12 := Lib.hid (below_next' HX.out.2 (below_next H11.out hb12))
    clear hb12
    go_wp2
    go_ret
    exact ⟨rfl, H12.out⟩
  · rw [decide_eq_false hf]
    go_wp2
    go_ret
    exact ⟨rfl, below_next' HX.out.2 H1.out⟩

end Go.Proofs.Ytjnaibeebijkaaa
