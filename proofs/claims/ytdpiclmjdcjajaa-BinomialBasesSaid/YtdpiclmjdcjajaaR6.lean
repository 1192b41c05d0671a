/-
  The walk of readSmallPair. No conditions.
-/
import Derived.Test.YtdpiclmjdcjajaaR5
namespace Go.Proofs.Ytdpiclmjdcjajaa
open Go.RowKit Num

def PairP (p q : Rat) (w : World) (e : Ending) (w' : World) : Prop :=
  ∃ (a b c d : Int) (ok : Bool), e = .returned (.tuple #[.agg #[.int .i64 a, .int .i64 b], .agg #[.int .i64 c, .int .i64 d], .bool ok]) ∧
    (ok = true → quo a b = p ∧ quo c d = q ∧ -999999999 ≤ a ∧ a ≤ 999999999 ∧ 1 ≤ b ∧ b ≤ 999999999 ∧ -999999999 ≤ c ∧ c ≤ 999999999 ∧ 1 ≤ d ∧ d ≤ 999999999) ∧ Below w.heap.size w w'

/-- An argument of type api.Rat, by its parts. -/
def RatV (w : World) (neg : Bool) (an : Option Addr) (n cn : Nat) (ad : Option Addr) (m cd k : Nat) (q : Rat) : Prop :=
  ∃ l1 l2 : List Nat, l1.length = n ∧ l2.length = m ∧ Lim w (.slice an n cn) l1 ∧ Lim w (.slice ad m cd) l2 ∧ n ≤ k ∧ m ≤ k ∧ q = rat neg (val l1) (val l2)

theorem RatA.v {w : World} {v : Value} {k : Nat} {q : Rat} (h : RatA w v k q) : ∃ neg an n cn ad m cd, v = .agg #[.bool neg, .slice an n cn, .slice ad m cd] ∧ RatV w neg an n cn ad m cd k q := by
  obtain ⟨neg, an, cn, ad, cd, l1, l2, e, h1, h2, k1, k2, hq⟩ := h
  exact ⟨neg, an, _, cn, ad, _, cd, e, l1, l2, rfl, rfl, h1, h2, k1, k2, hq⟩
theorem RatV.below {w w' : World} {neg : Bool} {an ad : Option Addr} {n cn m cd k : Nat} {q : Rat} (h : RatV w neg an n cn ad m cd k q) (hb : Below w.heap.size w w') : RatV w' neg an n cn ad m cd k q := by
  obtain ⟨l1, l2, e1, e2, h1, h2, r⟩ := h
  exact ⟨l1, l2, e1, e2, h1.below hb, h2.below hb, r⟩
theorem RatV.a {w : World} {neg : Bool} {an ad : Option Addr} {n cn m cd k : Nat} {q : Rat} (h : RatV w neg an n cn ad m cd k q) : RatA w (.agg #[.bool neg, .slice an n cn, .slice ad m cd]) k q := by
  obtain ⟨l1, l2, rfl, rfl, h1, h2, k1, k2, hq⟩ := h
  exact ⟨neg, an, cn, ad, cd, l1, l2, rfl, h1, h2, k1, k2, hq⟩

theorem readSmallV {w : World} {neg : Bool} {an ad : Option Addr} {n cn m cd k : Nat} {q : Rat} (h : RatV w neg an n cn ad m cd k q) : Calls Try.prog 107 #[.agg #[.bool neg, .slice an n cn, .slice ad m cd]] w (SmallP q w) := by
  obtain ⟨l1, l2, rfl, rfl, h1, h2, k1, k2, hq⟩ := h
  rw [hq]
  exact readSmall_any neg an ad cn cd l1 l2 w h1 h2
theorem readV {w : World} {neg : Bool} {an ad : Option Addr} {n cn m cd k : Nat} {q : Rat} (h : RatV w neg an n cn ad m cd k q) (hk : k ≤ 50000) : Calls Try.prog 108 #[.agg #[.bool neg, .slice an n cn, .slice ad m cd]] w (ReadP q (k + 1) w) := by
  obtain ⟨l1, l2, rfl, rfl, h1, h2, k1, k2, hq⟩ := h
  rw [hq]
  exact read_any neg an ad cn cd l1 l2 k w h1 h2 k1 k2 hk

theorem grown_set2 (w : World) (g : Nat) (x y : Value) : w.grownBy ((w.setCell ⟨g, 0, none⟩ x).setCell ⟨g, 1, none⟩ y) (some g) :=
  grown_setCell (grown_setCell (World.grownBy.refl _ _) _) _
theorem BoxV.drew {w : World} {B g t : Nat} {xs : List Value} (h : BoxV w B g t xs) : BoxV w.drew B g t xs := h.below (Below.refl _ _).drew

theorem below_alloc4 (w : World) (a b c d : Obj) : Below w.heap.size w ((((w.alloc a).alloc b).alloc c).alloc d) := (below_alloc3 w a b c).alloc (by simp; omega) d

set_option maxHeartbeats 4000000 in
theorem pair_any (na nb : Bool) (an ad bn bd : Option Addr) (n1 c1 n2 c2 m1 e1 m2 e2 k : Nat) (p q : Rat) (w : World) (hp : RatV w na an n1 c1 ad n2 c2 k p) (hq : RatV w nb bn m1 e1 bd m2 e2 k q) :
    Calls Try.prog 110 #[.agg #[.bool na, .slice an n1 c1, .slice ad n2 c2], .agg #[.bool nb, .slice bn m1 e1, .slice bd m2 e2]] w (PairP p q w) := by
  have hc1 := fun W (hW : Below w.heap.size w W) => readSmallV (hp.below hW)
  have hc2 := fun W (hW : Below w.heap.size w W) => readSmallV (hq.below hW)
  have HA := Lib.hid (And.intro hc1 hc2)
  clear hp hq hc1 hc2
  go_enter Try.func110, Try.ntmps110
  go_wp2_with fail
  obtain ⟨W0, hW0⟩ : ∃ W0, (((w.alloc (.cells #[.bool na, .slice an n1 c1, .slice ad n2 c2] 24)).alloc (.cells #[.bool nb, .slice bn m1 e1, .slice bd m2 e2] 24)).alloc (.cells #[.int .i64 0, .int .i64 0] 104)).alloc (.cells #[.int .i64 0, .int .i64 0] 104) = W0 := ⟨_, rfl⟩
  have hbw : Below w.heap.size w W0 := by rw [← hW0]; exact below_alloc4 _ _ _ _ _
  have hb3 : BoxV W0 w.heap.size (w.heap.size + 1 + 1 + 1) 104 [.int .i64 0, .int .i64 0] := by
    rw [← hW0]
    have := BoxV.new (((w.alloc (.cells #[.bool na, .slice an n1 c1, .slice ad n2 c2] 24)).alloc (.cells #[.bool nb, .slice bn m1 e1, .slice bd m2 e2] 24)).alloc (.cells #[.int .i64 0, .int .i64 0] 104)) w.heap.size 104 (by simp; omega) [.int .i64 0, .int .i64 0]
    simpa using this
  have hb2 : BoxV W0 w.heap.size (w.heap.size + 1 + 1) 104 [.int .i64 0, .int .i64 0] := by
    rw [← hW0]
    have := (BoxV.new ((w.alloc (.cells #[.bool na, .slice an n1 c1, .slice ad n2 c2] 24)).alloc (.cells #[.bool nb, .slice bn m1 e1, .slice bd m2 e2] 24)) w.heap.size 104 (by simp; omega) [.int .i64 0, .int .i64 0]).alloc (.cells #[.int .i64 0, .int .i64 0] 104)
    simpa using this
  have hb1 : BoxV W0 w.heap.size (w.heap.size + 1) 24 [.bool nb, .slice bn m1 e1, .slice bd m2 e2] := by
    rw [← hW0]
    have := ((BoxV.new (w.alloc (.cells #[.bool na, .slice an n1 c1, .slice ad n2 c2] 24)) w.heap.size 24 (by simp) [.bool nb, .slice bn m1 e1, .slice bd m2 e2]).alloc (.cells #[.int .i64 0, .int .i64 0] 104)).alloc (.cells #[.int .i64 0, .int .i64 0] 104)
    simpa using this
  rw [hW0]
  clear hW0
  refine (HA.out.1 _ hbw).mono ?_
  rintro e w1 ⟨a, b, o1, rfl, hi1, hw1⟩
  obtain ⟨⟨r0, r1⟩, g0, g1⟩ := (hb2.below hw1).two
  obtain ⟨⟨k0, k1, k2⟩, _⟩ := (hb1.below hw1).three
  have HX := Lib.hid (And.intro hbw (And.intro hb1 (And.intro hb2 (And.intro hb3 (And.intro hi1 hw1)))))
  clear hbw hb1 hb2 hb3 hi1 hw1
  go_wp2_with fail
  obtain ⟨hbw, hb1, hb2, hb3, hi1, hw1⟩ := HX.out
  obtain ⟨W1, hW1⟩ : ∃ W1, (w1.setCell ⟨w.heap.size + 1 + 1, 0, none⟩ (.int .i64 a)).setCell ⟨w.heap.size + 1 + 1, 1, none⟩ (.int .i64 b) = W1 := ⟨_, rfl⟩
  have hgr : w1.grownBy W1 (some (w.heap.size + 1 + 1)) := by rw [← hW1]; exact grown_setCell (grown_setCell (World.grownBy.refl _ _) _) _
  have hbw1 : Below w.heap.size w W1 := by rw [← hW1]; exact below_set2 (below_next' hbw hw1) (by omega) _ _
  have hb2' : BoxV W1 w.heap.size (w.heap.size + 1 + 1) 104 [.int .i64 a, .int .i64 b] := by rw [← hW1]; exact (hb2.below hw1).store2 _ _
  have hb3' : BoxV W1 w.heap.size (w.heap.size + 1 + 1 + 1) 104 [.int .i64 0, .int .i64 0] := (hb3.below hw1).kept hgr (by simp)
  rw [hW1]
  refine (HA.out.2 _ hbw1).mono ?_
  rintro e w2 ⟨c, d, o2, rfl, hi2, hw2⟩
  obtain ⟨⟨s0, s1⟩, i0, i1⟩ := (hb2'.below hw2).two
  obtain ⟨⟨t0, t1⟩, j0, j1⟩ := (hb3'.below hw2).two
  have HY := Lib.hid (And.intro hbw1 (And.intro hi1 (And.intro hi2 (And.intro (hb2'.below hw2) (And.intro (hb3'.below hw2) hw2)))))
  clear hbw hb1 hb2 hb3 hi1 hw1 hgr hbw1 hb2' hb3' hi2 hw2 hW1 r0 r1 g0 g1 k0 k1 k2 HX
  cases o1
  all_goals
    cases o2
  all_goals
    go_wp2
    go_region
  · go_wp2
    have u2 := ((((HY.out.2.2.2.1.kept (grown_set2 w2 (w.heap.size + 1 + 1 + 1) (.int .i64 c) (.int .i64 d)) (by simp)).store2 (.int .i64 a) (.int .i64 b))).kept (grown_set2 _ (w.heap.size + 1 + 1 + 1) (.int .i64 c) (.int .i64 d)) (by simp)).drew
    have u3 := (((HY.out.2.2.2.2.1.store2 (.int .i64 c) (.int .i64 d)).kept (grown_set2 _ (w.heap.size + 1 + 1) (.int .i64 a) (.int .i64 b)) (by simp)).store2 (.int .i64 c) (.int .i64 d)).drew
    obtain ⟨⟨v0, v1⟩, _⟩ := u2.two
    obtain ⟨⟨x0, x1⟩, _⟩ := u3.two
    clear s0 s1 t0 t1
    refine bodyPost_ret (v := .tuple #[.agg #[.int .i64 a, .int .i64 b], .agg #[.int .i64 c, .int .i64 d], .bool false]) (by simp only [World.cell?_drew] at v0 v1 x0 x1; simp [results, Try.results110, go_sem, v0, v1, x0, x1]) rfl ⟨a, b, c, d, false, rfl, ?_, ?_⟩
    · exact fun h => by cases h
    · exact (below_set2 (below_set2 (below_set2 (below_next' HY.out.1 HY.out.2.2.2.2.2) (by omega) _ _) (by omega) _ _) (by omega) _ _).drew
  · go_wp2
    have u2 := ((((HY.out.2.2.2.1.kept (grown_set2 w2 (w.heap.size + 1 + 1 + 1) (.int .i64 c) (.int .i64 d)) (by simp)).store2 (.int .i64 a) (.int .i64 b))).kept (grown_set2 _ (w.heap.size + 1 + 1 + 1) (.int .i64 c) (.int .i64 d)) (by simp)).drew
    have u3 := (((HY.out.2.2.2.2.1.store2 (.int .i64 c) (.int .i64 d)).kept (grown_set2 _ (w.heap.size + 1 + 1) (.int .i64 a) (.int .i64 b)) (by simp)).store2 (.int .i64 c) (.int .i64 d)).drew
    obtain ⟨⟨v0, v1⟩, _⟩ := u2.two
    obtain ⟨⟨x0, x1⟩, _⟩ := u3.two
    clear s0 s1 t0 t1
    refine bodyPost_ret (v := .tuple #[.agg #[.int .i64 a, .int .i64 b], .agg #[.int .i64 c, .int .i64 d], .bool false]) (by simp only [World.cell?_drew] at v0 v1 x0 x1; simp [results, Try.results110, go_sem, v0, v1, x0, x1]) rfl ⟨a, b, c, d, false, rfl, ?_, ?_⟩
    · exact fun h => by cases h
    · exact (below_set2 (below_set2 (below_set2 (below_next' HY.out.1 HY.out.2.2.2.2.2) (by omega) _ _) (by omega) _ _) (by omega) _ _).drew
  · go_wp2
    have u2 := ((((HY.out.2.2.2.1.kept (grown_set2 w2 (w.heap.size + 1 + 1 + 1) (.int .i64 c) (.int .i64 d)) (by simp)).store2 (.int .i64 a) (.int .i64 b))).kept (grown_set2 _ (w.heap.size + 1 + 1 + 1) (.int .i64 c) (.int .i64 d)) (by simp)).drew
    have u3 := (((HY.out.2.2.2.2.1.store2 (.int .i64 c) (.int .i64 d)).kept (grown_set2 _ (w.heap.size + 1 + 1) (.int .i64 a) (.int .i64 b)) (by simp)).store2 (.int .i64 c) (.int .i64 d)).drew
    obtain ⟨⟨v0, v1⟩, _⟩ := u2.two
    obtain ⟨⟨x0, x1⟩, _⟩ := u3.two
    clear s0 s1 t0 t1
    refine bodyPost_ret (v := .tuple #[.agg #[.int .i64 a, .int .i64 b], .agg #[.int .i64 c, .int .i64 d], .bool false]) (by simp only [World.cell?_drew] at v0 v1 x0 x1; simp [results, Try.results110, go_sem, v0, v1, x0, x1]) rfl ⟨a, b, c, d, false, rfl, ?_, ?_⟩
    · exact fun h => by cases h
    · exact (below_set2 (below_set2 (below_set2 (below_next' HY.out.1 HY.out.2.2.2.2.2) (by omega) _ _) (by omega) _ _) (by omega) _ _).drew
  · go_wp2
    have u2 := ((((HY.out.2.2.2.1.kept (grown_set2 w2 (w.heap.size + 1 + 1 + 1) (.int .i64 c) (.int .i64 d)) (by simp)).store2 (.int .i64 a) (.int .i64 b))).kept (grown_set2 _ (w.heap.size + 1 + 1 + 1) (.int .i64 c) (.int .i64 d)) (by simp)).drew
    have u3 := (((HY.out.2.2.2.2.1.store2 (.int .i64 c) (.int .i64 d)).kept (grown_set2 _ (w.heap.size + 1 + 1) (.int .i64 a) (.int .i64 b)) (by simp)).store2 (.int .i64 c) (.int .i64 d)).drew
    obtain ⟨⟨v0, v1⟩, _⟩ := u2.two
    obtain ⟨⟨x0, x1⟩, _⟩ := u3.two
    clear s0 s1 t0 t1
    refine bodyPost_ret (v := .tuple #[.agg #[.int .i64 a, .int .i64 b], .agg #[.int .i64 c, .int .i64 d], .bool true]) (by simp only [World.cell?_drew] at v0 v1 x0 x1; simp [results, Try.results110, go_sem, v0, v1, x0, x1]) rfl ⟨a, b, c, d, true, rfl, ?_, ?_⟩
    · exact fun _ => by
        have h1 := HY.out.2.1 (by first | trivial | rfl)
        have h2 := HY.out.2.2.1 (by first | trivial | rfl)
        exact ⟨h1.1, h2.1, h1.2.1, h1.2.2.1, h1.2.2.2.1, h1.2.2.2.2, h2.2.1, h2.2.2.1, h2.2.2.2.1, h2.2.2.2.2⟩
    · exact (below_set2 (below_set2 (below_set2 (below_next' HY.out.1 HY.out.2.2.2.2.2) (by omega) _ _) (by omega) _ _) (by omega) _ _).drew

end Go.Proofs.Ytdpiclmjdcjajaa
