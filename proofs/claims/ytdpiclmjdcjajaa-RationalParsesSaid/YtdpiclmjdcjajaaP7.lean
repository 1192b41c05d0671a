/-
  The walks of the reference's Parse and of the law RationalParses. Conditions: as each says.
-/
import Derived.Test.YtdpiclmjdcjajaaP3
import Derived.Test.YtdpiclmjdcjajaaP5
import Derived.Test.YtdpiclmjdcjajaaQ7
import Derived.Test.YtdpiclmjdcjajaaR5
namespace Go.Proofs.Ytdpiclmjdcjajaa
open Go.RowKit Num

theorem str_inj {a b : ByteArray} (h : a.data.toList = b.data.toList) : a = b := by rw [str_mk h]
/-- How the reference finds the sign. -/
def SignAt (s b : ByteArray) (neg : Bool) : Prop :=
  (neg = true ∧ s.extract 1 s.size = b ∧ 1 ≤ s.size ∧ ∃ c : UInt8, (∀ h : 0 < s.size, s[0] = c) ∧ ((c.toNat : Int) == 45) = true) ∨
  (neg = false ∧ b = s ∧ 1 ≤ s.size ∧ ∃ c : UInt8, (∀ h : 0 < s.size, s[0] = c) ∧ ((c.toNat : Int) == 45) = false) ∨
  (neg = false ∧ b = s ∧ s.size = 0)
/-- Where the slash is, or the end. -/
structure SlashAt (b num den : ByteArray) (k : Nat) : Prop where
  le : k ≤ b.size
  before : ∀ (j : Nat) (h : j < b.size), j < k → ((b[j].toNat : Int) == 47) = false
  at_ : ∀ (h : k < b.size), ((b[k].toNat : Int) == 47) = true
  num : b.extract 0 k = num
  den : k < b.size → b.extract (k + 1) b.size = den

set_option maxHeartbeats 8000000 in
set_option maxRecDepth 20000 in
theorem refParse_none_q {s b num den : ByteArray} {neg : Bool} {k : Nat} {o2 : Option Nat} (N : SignAt s b neg) (S : SlashAt b num den k) (hkq : k < b.size) (hs : s.size ≤ 500) (hbs : b.size ≤ 500) 
    (d1 : ∀ w, Calls Try.prog 53 #[.string num] w (DigP none w)) (d2 : ∀ w, Calls Try.prog 53 #[.string den] w (DigP o2 w)) (w : World) : Calls Try.prog 18 #[.string s] w (ParseP none w) := by
  have HP := Lib.hid (And.intro S.before (And.intro S.at_ (And.intro d1 d2)))
  have hnum := S.num
  have hkb := S.le
  have hden := S.den hkq
  clear S d1 d2
  obtain ⟨W0, hW0⟩ : ∃ W0, w.alloc (.cells #[.bool false, .slice none 0 0, .slice none 0 0] 24) = W0 := ⟨_, rfl⟩
  have hbw : Below w.heap.size w W0 := by rw [← hW0]; exact below_alloc1 _ _
  have hB : BoxV W0 w.heap.size w.heap.size 24 [.bool false, .slice none 0 0, .slice none 0 0] := by rw [← hW0]; exact BoxV.new w w.heap.size 24 (Nat.le_refl _) [.bool false, .slice none 0 0, .slice none 0 0]
  have HX := Lib.hid (And.intro hbw (And.intro hB hW0))
  clear hbw hB hW0
  rcases N with ⟨rfl, hb, hs1, c, hc, h45⟩ | ⟨rfl, hb, hs1, c, hc, h45⟩ | ⟨rfl, hb, hs0⟩
  · have hs0' : 0 < s.size := by omega
    have hc := hc hs0'
    go_enter Try.func18, Try.ntmps18
    go_wp2_with fail
    rw [HX.out.2.2]
    go_loopg [5, 6] (b.size + 1) (fun g x y wy => ∃ j : Nat, j + g = b.size + 1 ∧ j ≤ k ∧ y = .int .i64 j ∧ x = .int .i64 b.size ∧ W0 = wy)
    case atStart => exact ⟨0, by omega, by omega, rfl, rfl, rfl⟩
    case round =>
      obtain ⟨j, hjg, hjk, rfl, rfl, rfl⟩ := hrel
      by_cases hlt : j < k
      · have hjb : j < b.size := by omega
        have h47 := HP.out.1 j hjb hlt
        obtain ⟨x, hx⟩ : ∃ x, b[j] = x := ⟨_, rfl⟩
        rw [hx] at h47
        go_wp2
        go_roundg (gk - 1)
        case measure => omega
        case rel => exact ⟨j + 1, by omega, by omega, by go_num, rfl, rfl⟩
      · obtain rfl : j = k := by omega
        have h47 := HP.out.2.1 hkq
        obtain ⟨x, hx⟩ : ∃ x, b[j] = x := ⟨_, rfl⟩
        rw [hx] at h47
        go_wp2_with fail
        refine (HP.out.2.2.1 _).mono ?_
        intro e w2 h2
        obtain ⟨rfl, hb2⟩ := h2.none_
        have hbw := below_next' HX.out.1 hb2
        have hB2 := HX.out.2.1.below hb2
        obtain ⟨⟨t0, t1, t2⟩, i0, i1, i2⟩ := hB2.three
        have HF := Lib.hid (And.intro hbw hB2)
        clear hb2 h2 hbw hB2
        go_wp2
        refine bodyPost_ret (v := .tuple #[.agg #[.bool false, .slice none 0 0, .slice none 0 0], .bool false]) (by simp [results, Try.results18, go_sem, t0, t1, t2]) rfl ⟨rfl, below_set3 HF.out.1 (by omega) _ _ _⟩
  · subst hb
    have hs0' : 0 < b.size := by omega
    have hc := hc hs0'
    go_enter Try.func18, Try.ntmps18
    go_wp2_with fail
    rw [HX.out.2.2]
    go_loopg [5, 6] (b.size + 1) (fun g x y wy => ∃ j : Nat, j + g = b.size + 1 ∧ j ≤ k ∧ y = .int .i64 j ∧ x = .int .i64 b.size ∧ W0 = wy)
    case atStart => exact ⟨0, by omega, by omega, rfl, rfl, rfl⟩
    case round =>
      obtain ⟨j, hjg, hjk, rfl, rfl, rfl⟩ := hrel
      by_cases hlt : j < k
      · have hjb : j < b.size := by omega
        have h47 := HP.out.1 j hjb hlt
        obtain ⟨x, hx⟩ : ∃ x, b[j] = x := ⟨_, rfl⟩
        rw [hx] at h47
        go_wp2
        go_roundg (gk - 1)
        case measure => omega
        case rel => exact ⟨j + 1, by omega, by omega, by go_num, rfl, rfl⟩
      · obtain rfl : j = k := by omega
        have h47 := HP.out.2.1 hkq
        obtain ⟨x, hx⟩ : ∃ x, b[j] = x := ⟨_, rfl⟩
        rw [hx] at h47
        go_wp2_with fail
        refine (HP.out.2.2.1 _).mono ?_
        intro e w2 h2
        obtain ⟨rfl, hb2⟩ := h2.none_
        have hbw := below_next' HX.out.1 hb2
        have hB2 := HX.out.2.1.below hb2
        obtain ⟨⟨t0, t1, t2⟩, i0, i1, i2⟩ := hB2.three
        have HF := Lib.hid (And.intro hbw hB2)
        clear hb2 h2 hbw hB2
        go_wp2
        refine bodyPost_ret (v := .tuple #[.agg #[.bool false, .slice none 0 0, .slice none 0 0], .bool false]) (by simp [results, Try.results18, go_sem, t0, t1, t2]) rfl ⟨rfl, below_set3 HF.out.1 (by omega) _ _ _⟩
  · exfalso; subst hb; omega

set_option maxHeartbeats 8000000 in
set_option maxRecDepth 20000 in
theorem refParse_none {s b num den : ByteArray} {neg : Bool} {k : Nat} {o2 : Option Nat} (N : SignAt s b neg) (S : SlashAt b num den k) (hkq : k = b.size) (hs : s.size ≤ 500) (hbs : b.size ≤ 500) 
    (d1 : ∀ w, Calls Try.prog 53 #[.string num] w (DigP none w)) (d2 : ∀ w, Calls Try.prog 53 #[.string den] w (DigP o2 w)) (w : World) : Calls Try.prog 18 #[.string s] w (ParseP none w) := by
  have HP := Lib.hid (And.intro S.before (And.intro S.at_ (And.intro d1 d2)))
  have hxb : b.extract 0 b.size = b := by apply str_inj; rw [Lib.extract_data, List.drop_zero, Nat.sub_zero, List.take_of_length_le (by rw [size_data]; exact Nat.le_refl _)]
  obtain rfl : b = num := by rw [← S.num, hkq, hxb]
  have hnum := hxb
  clear hxb
  have hkb := S.le
  skip
  clear S d1 d2
  have hkq1 : b.size ≤ k := by omega
  clear hkq
  obtain ⟨W0, hW0⟩ : ∃ W0, w.alloc (.cells #[.bool false, .slice none 0 0, .slice none 0 0] 24) = W0 := ⟨_, rfl⟩
  have hbw : Below w.heap.size w W0 := by rw [← hW0]; exact below_alloc1 _ _
  have hB : BoxV W0 w.heap.size w.heap.size 24 [.bool false, .slice none 0 0, .slice none 0 0] := by rw [← hW0]; exact BoxV.new w w.heap.size 24 (Nat.le_refl _) [.bool false, .slice none 0 0, .slice none 0 0]
  have HX := Lib.hid (And.intro hbw (And.intro hB hW0))
  clear hbw hB hW0
  rcases N with ⟨rfl, hb, hs1, c, hc, h45⟩ | ⟨rfl, hb, hs1, c, hc, h45⟩ | ⟨rfl, hb, hs0⟩
  · have hs0' : 0 < s.size := by omega
    have hc := hc hs0'
    go_enter Try.func18, Try.ntmps18
    go_wp2_with fail
    rw [HX.out.2.2]
    go_loopg [5, 6] (b.size + 1) (fun g x y wy => ∃ j : Nat, j + g = b.size + 1 ∧ j ≤ k ∧ y = .int .i64 j ∧ x = .int .i64 b.size ∧ W0 = wy)
    case atStart => exact ⟨0, by omega, by omega, rfl, rfl, rfl⟩
    case round =>
      obtain ⟨j, hjg, hjk, rfl, rfl, rfl⟩ := hrel
      by_cases hlt : j < k
      · have hjb : j < b.size := by omega
        have h47 := HP.out.1 j hjb hlt
        obtain ⟨x, hx⟩ : ∃ x, b[j] = x := ⟨_, rfl⟩
        rw [hx] at h47
        go_wp2
        go_roundg (gk - 1)
        case measure => omega
        case rel => exact ⟨j + 1, by omega, by omega, by go_num, rfl, rfl⟩
      · obtain rfl : j = k := by omega
        have hge : ¬ (j : Int) < (b.size : Int) := by omega
        go_wp2_with fail
        refine (HP.out.2.2.1 _).mono ?_
        intro e w2 h2
        obtain ⟨rfl, hb2⟩ := h2.none_
        have hbw := below_next' HX.out.1 hb2
        have hB2 := HX.out.2.1.below hb2
        obtain ⟨⟨t0, t1, t2⟩, i0, i1, i2⟩ := hB2.three
        have HF := Lib.hid (And.intro hbw hB2)
        clear hb2 h2 hbw hB2
        go_wp2
        refine bodyPost_ret (v := .tuple #[.agg #[.bool false, .slice none 0 0, .slice none 0 0], .bool false]) (by simp [results, Try.results18, go_sem, t0, t1, t2]) rfl ⟨rfl, below_set3 HF.out.1 (by omega) _ _ _⟩
  · subst hb
    have hs0' : 0 < b.size := by omega
    have hc := hc hs0'
    go_enter Try.func18, Try.ntmps18
    go_wp2_with fail
    rw [HX.out.2.2]
    go_loopg [5, 6] (b.size + 1) (fun g x y wy => ∃ j : Nat, j + g = b.size + 1 ∧ j ≤ k ∧ y = .int .i64 j ∧ x = .int .i64 b.size ∧ W0 = wy)
    case atStart => exact ⟨0, by omega, by omega, rfl, rfl, rfl⟩
    case round =>
      obtain ⟨j, hjg, hjk, rfl, rfl, rfl⟩ := hrel
      by_cases hlt : j < k
      · have hjb : j < b.size := by omega
        have h47 := HP.out.1 j hjb hlt
        obtain ⟨x, hx⟩ : ∃ x, b[j] = x := ⟨_, rfl⟩
        rw [hx] at h47
        go_wp2
        go_roundg (gk - 1)
        case measure => omega
        case rel => exact ⟨j + 1, by omega, by omega, by go_num, rfl, rfl⟩
      · obtain rfl : j = k := by omega
        have hge : ¬ (j : Int) < (b.size : Int) := by omega
        go_wp2_with fail
        refine (HP.out.2.2.1 _).mono ?_
        intro e w2 h2
        obtain ⟨rfl, hb2⟩ := h2.none_
        have hbw := below_next' HX.out.1 hb2
        have hB2 := HX.out.2.1.below hb2
        obtain ⟨⟨t0, t1, t2⟩, i0, i1, i2⟩ := hB2.three
        have HF := Lib.hid (And.intro hbw hB2)
        clear hb2 h2 hbw hB2
        go_wp2
        refine bodyPost_ret (v := .tuple #[.agg #[.bool false, .slice none 0 0, .slice none 0 0], .bool false]) (by simp [results, Try.results18, go_sem, t0, t1, t2]) rfl ⟨rfl, below_set3 HF.out.1 (by omega) _ _ _⟩
  · subst hb
    obtain rfl : b = ⟨#[]⟩ := by
      apply ByteArray.ext
      exact Array.eq_empty_of_size_eq_zero hs0
    clear hs0 hkb hkq1 hs hbs
    go_enter Try.func18, Try.ntmps18
    go_wp2_with fail
    rw [HX.out.2.2]
    go_loopg [5, 6] 1 (fun g x y wy => y = .int .i64 0 ∧ x = .int .i64 0 ∧ W0 = wy)
    case atStart => exact ⟨rfl, rfl, rfl⟩
    case round =>
      obtain ⟨rfl, rfl, rfl⟩ := hrel
      · skip
        go_wp2_with fail
        refine (HP.out.2.2.1 _).mono ?_
        intro e w2 h2
        obtain ⟨rfl, hb2⟩ := h2.none_
        have hbw := below_next' HX.out.1 hb2
        have hB2 := HX.out.2.1.below hb2
        obtain ⟨⟨t0, t1, t2⟩, i0, i1, i2⟩ := hB2.three
        have HF := Lib.hid (And.intro hbw hB2)
        clear hb2 h2 hbw hB2
        go_wp2
        refine bodyPost_ret (v := .tuple #[.agg #[.bool false, .slice none 0 0, .slice none 0 0], .bool false]) (by simp [results, Try.results18, go_sem, t0, t1, t2]) rfl ⟨rfl, below_set3 HF.out.1 (by omega) _ _ _⟩

set_option maxHeartbeats 8000000 in
set_option maxRecDepth 20000 in
theorem refParse_whole {s b num den : ByteArray} {neg : Bool} {k : Nat} {n : Nat} {o2 : Option Nat} (N : SignAt s b neg) (S : SlashAt b num den k) (hkq : k = b.size) (hs : s.size ≤ 500) (hbs : b.size ≤ 500) (hne : ¬ b.size = 0) (hn : n < pw 23)
    (d1 : ∀ w, Calls Try.prog 53 #[.string num] w (DigP (some n) w)) (d2 : ∀ w, Calls Try.prog 53 #[.string den] w (DigP o2 w)) (w : World) : Calls Try.prog 18 #[.string s] w (ParseP (some (rat neg n 1)) w) := by
  have HP := Lib.hid (And.intro S.before (And.intro S.at_ (And.intro d1 d2)))
  have hxb : b.extract 0 b.size = b := by apply str_inj; rw [Lib.extract_data, List.drop_zero, Nat.sub_zero, List.take_of_length_le (by rw [size_data]; exact Nat.le_refl _)]
  obtain rfl : b = num := by rw [← S.num, hkq, hxb]
  have hnum := hxb
  clear hxb
  have hkb := S.le
  skip
  clear S d1 d2
  have hkq1 : b.size ≤ k := by omega
  clear hkq
  obtain ⟨W0, hW0⟩ : ∃ W0, w.alloc (.cells #[.bool false, .slice none 0 0, .slice none 0 0] 24) = W0 := ⟨_, rfl⟩
  have hbw : Below w.heap.size w W0 := by rw [← hW0]; exact below_alloc1 _ _
  have hB : BoxV W0 w.heap.size w.heap.size 24 [.bool false, .slice none 0 0, .slice none 0 0] := by rw [← hW0]; exact BoxV.new w w.heap.size 24 (Nat.le_refl _) [.bool false, .slice none 0 0, .slice none 0 0]
  have HX := Lib.hid (And.intro hbw (And.intro hB hW0))
  clear hbw hB hW0
  rcases N with ⟨rfl, hb, hs1, c, hc, h45⟩ | ⟨rfl, hb, hs1, c, hc, h45⟩ | ⟨rfl, hb, hs0⟩
  · have hs0' : 0 < s.size := by omega
    have hc := hc hs0'
    go_enter Try.func18, Try.ntmps18
    go_wp2_with fail
    rw [HX.out.2.2]
    go_loopg [5, 6] (b.size + 1) (fun g x y wy => ∃ j : Nat, j + g = b.size + 1 ∧ j ≤ k ∧ y = .int .i64 j ∧ x = .int .i64 b.size ∧ W0 = wy)
    case atStart => exact ⟨0, by omega, by omega, rfl, rfl, rfl⟩
    case round =>
      obtain ⟨j, hjg, hjk, rfl, rfl, rfl⟩ := hrel
      by_cases hlt : j < k
      · have hjb : j < b.size := by omega
        have h47 := HP.out.1 j hjb hlt
        obtain ⟨x, hx⟩ : ∃ x, b[j] = x := ⟨_, rfl⟩
        rw [hx] at h47
        go_wp2
        go_roundg (gk - 1)
        case measure => omega
        case rel => exact ⟨j + 1, by omega, by omega, by go_num, rfl, rfl⟩
      · obtain rfl : j = k := by omega
        have hge : ¬ (j : Int) < (b.size : Int) := by omega
        go_wp2_with fail
        refine (HP.out.2.2.1 _).mono ?_
        intro e w2 h2
        obtain ⟨a1, n1, c1, rfl, hn1, hb2⟩ := h2.some_
        have hbw := below_next' HX.out.1 hb2
        have hB2 := HX.out.2.1.below hb2
        have HG := Lib.hid (And.intro hbw (And.intro hB2 hn1))
        clear hb2 h2 hbw hB2 hn1
        go_wp2_with fail
        obtain ⟨W3, hW3⟩ : ∃ W3, w2.alloc (.cells #[.int .u32 1] 58) = W3 := ⟨_, rfl⟩
        have hb3 : Below w2.heap.size w2 W3 := by rw [← hW3]; exact below_alloc1 _ _
        have hone : W3.cell? ⟨w2.heap.size, 0, none⟩ = some (.int .u32 1) := by rw [← hW3, World.cell?_alloc_new]; rfl
        rw [hW3]
        clear hW3
        have hB3 := HG.out.2.1.below hb3
        have hbw3 := below_next' HG.out.1 hb3
        obtain ⟨l1, hl1, hc1, hv1⟩ := HG.out.2.2.below hb3
        obtain ⟨l2, hl2, hc2, hv2⟩ := lim_one hone
        have hcan := build_any true _ _ l1 l2 W3 hl1 hl2 (by have := cano_len hc1 (by rw [hv1]; exact hn); omega) (by have := cano_len hc2 (k := 1) (by rw [hv2]; decide); omega)
        rw [hv1, hv2] at hcan
        have HK := Lib.hid (And.intro hcan (And.intro hB3 hbw3))
        clear hb3 hone hB3 hbw3 hcan hl1 hl2 hc1 hc2 hv1 hv2
        go_wp2_with fail
        refine HK.out.1.mono ?_
        rintro e w4 ⟨v, rfl, hv, hb4⟩
        have hbb := below_next' HK.out.2.2 hb4
        have hB5 := HK.out.2.1.below hb4
        clear hb4
        obtain ⟨yn, yl, yc, dn, dl, dc, rfl, hzn, hzd⟩ := hv
        obtain ⟨⟨t0, t1, t2⟩, i0, i1, i2⟩ := hB5.three
        have HF := Lib.hid (And.intro hzn (And.intro hzd (And.intro hbb hB5)))
        clear hzn hzd hbb hB5
        go_wp2
        obtain ⟨hzn, hzd, hbw3, hB5⟩ := HF.out
        refine bodyPost_ret (v := .tuple #[.agg #[.bool (decide ((rat true n 1).num < 0)), .slice yn yl yc, .slice dn dl dc], .bool true]) (by simp [results, Try.results18, go_sem, t0, t1, t2]) rfl ⟨⟨.agg #[.bool (decide ((rat true n 1).num < 0)), .slice yn yl yc, .slice dn dl dc], rfl, ?_⟩, below_set3 hbw3 (by omega) _ _ _⟩
        exact RatC.other (⟨yn, yl, yc, dn, dl, dc, rfl, hzn, hzd⟩ : RatC w4 _ (rat true n 1)) hB5 noLimb_nil3 (grown_set3 _ _ _ _ _)
  · subst hb
    have hs0' : 0 < b.size := by omega
    have hc := hc hs0'
    go_enter Try.func18, Try.ntmps18
    go_wp2_with fail
    rw [HX.out.2.2]
    go_loopg [5, 6] (b.size + 1) (fun g x y wy => ∃ j : Nat, j + g = b.size + 1 ∧ j ≤ k ∧ y = .int .i64 j ∧ x = .int .i64 b.size ∧ W0 = wy)
    case atStart => exact ⟨0, by omega, by omega, rfl, rfl, rfl⟩
    case round =>
      obtain ⟨j, hjg, hjk, rfl, rfl, rfl⟩ := hrel
      by_cases hlt : j < k
      · have hjb : j < b.size := by omega
        have h47 := HP.out.1 j hjb hlt
        obtain ⟨x, hx⟩ : ∃ x, b[j] = x := ⟨_, rfl⟩
        rw [hx] at h47
        go_wp2
        go_roundg (gk - 1)
        case measure => omega
        case rel => exact ⟨j + 1, by omega, by omega, by go_num, rfl, rfl⟩
      · obtain rfl : j = k := by omega
        have hge : ¬ (j : Int) < (b.size : Int) := by omega
        go_wp2_with fail
        refine (HP.out.2.2.1 _).mono ?_
        intro e w2 h2
        obtain ⟨a1, n1, c1, rfl, hn1, hb2⟩ := h2.some_
        have hbw := below_next' HX.out.1 hb2
        have hB2 := HX.out.2.1.below hb2
        have HG := Lib.hid (And.intro hbw (And.intro hB2 hn1))
        clear hb2 h2 hbw hB2 hn1
        go_wp2_with fail
        obtain ⟨W3, hW3⟩ : ∃ W3, w2.alloc (.cells #[.int .u32 1] 58) = W3 := ⟨_, rfl⟩
        have hb3 : Below w2.heap.size w2 W3 := by rw [← hW3]; exact below_alloc1 _ _
        have hone : W3.cell? ⟨w2.heap.size, 0, none⟩ = some (.int .u32 1) := by rw [← hW3, World.cell?_alloc_new]; rfl
        rw [hW3]
        clear hW3
        have hB3 := HG.out.2.1.below hb3
        have hbw3 := below_next' HG.out.1 hb3
        obtain ⟨l1, hl1, hc1, hv1⟩ := HG.out.2.2.below hb3
        obtain ⟨l2, hl2, hc2, hv2⟩ := lim_one hone
        have hcan := build_any false _ _ l1 l2 W3 hl1 hl2 (by have := cano_len hc1 (by rw [hv1]; exact hn); omega) (by have := cano_len hc2 (k := 1) (by rw [hv2]; decide); omega)
        rw [hv1, hv2] at hcan
        have HK := Lib.hid (And.intro hcan (And.intro hB3 hbw3))
        clear hb3 hone hB3 hbw3 hcan hl1 hl2 hc1 hc2 hv1 hv2
        go_wp2_with fail
        refine HK.out.1.mono ?_
        rintro e w4 ⟨v, rfl, hv, hb4⟩
        have hbb := below_next' HK.out.2.2 hb4
        have hB5 := HK.out.2.1.below hb4
        clear hb4
        obtain ⟨yn, yl, yc, dn, dl, dc, rfl, hzn, hzd⟩ := hv
        obtain ⟨⟨t0, t1, t2⟩, i0, i1, i2⟩ := hB5.three
        have HF := Lib.hid (And.intro hzn (And.intro hzd (And.intro hbb hB5)))
        clear hzn hzd hbb hB5
        go_wp2
        obtain ⟨hzn, hzd, hbw3, hB5⟩ := HF.out
        refine bodyPost_ret (v := .tuple #[.agg #[.bool (decide ((rat false n 1).num < 0)), .slice yn yl yc, .slice dn dl dc], .bool true]) (by simp [results, Try.results18, go_sem, t0, t1, t2]) rfl ⟨⟨.agg #[.bool (decide ((rat false n 1).num < 0)), .slice yn yl yc, .slice dn dl dc], rfl, ?_⟩, below_set3 hbw3 (by omega) _ _ _⟩
        exact RatC.other (⟨yn, yl, yc, dn, dl, dc, rfl, hzn, hzd⟩ : RatC w4 _ (rat false n 1)) hB5 noLimb_nil3 (grown_set3 _ _ _ _ _)
  · exfalso; subst hb; exact hne hs0

set_option maxHeartbeats 8000000 in
set_option maxRecDepth 20000 in
theorem refParse_den_none {s b num den : ByteArray} {neg : Bool} {k : Nat} {n : Nat} (N : SignAt s b neg) (S : SlashAt b num den k) (hkq : k < b.size) (hs : s.size ≤ 500) (hbs : b.size ≤ 500) 
    (d1 : ∀ w, Calls Try.prog 53 #[.string num] w (DigP (some n) w)) (d2 : ∀ w, Calls Try.prog 53 #[.string den] w (DigP none w)) (w : World) : Calls Try.prog 18 #[.string s] w (ParseP none w) := by
  have HP := Lib.hid (And.intro S.before (And.intro S.at_ (And.intro d1 d2)))
  have hnum := S.num
  have hkb := S.le
  have hden := S.den hkq
  clear S d1 d2
  obtain ⟨W0, hW0⟩ : ∃ W0, w.alloc (.cells #[.bool false, .slice none 0 0, .slice none 0 0] 24) = W0 := ⟨_, rfl⟩
  have hbw : Below w.heap.size w W0 := by rw [← hW0]; exact below_alloc1 _ _
  have hB : BoxV W0 w.heap.size w.heap.size 24 [.bool false, .slice none 0 0, .slice none 0 0] := by rw [← hW0]; exact BoxV.new w w.heap.size 24 (Nat.le_refl _) [.bool false, .slice none 0 0, .slice none 0 0]
  have HX := Lib.hid (And.intro hbw (And.intro hB hW0))
  clear hbw hB hW0
  rcases N with ⟨rfl, hb, hs1, c, hc, h45⟩ | ⟨rfl, hb, hs1, c, hc, h45⟩ | ⟨rfl, hb, hs0⟩
  · have hs0' : 0 < s.size := by omega
    have hc := hc hs0'
    go_enter Try.func18, Try.ntmps18
    go_wp2_with fail
    rw [HX.out.2.2]
    go_loopg [5, 6] (b.size + 1) (fun g x y wy => ∃ j : Nat, j + g = b.size + 1 ∧ j ≤ k ∧ y = .int .i64 j ∧ x = .int .i64 b.size ∧ W0 = wy)
    case atStart => exact ⟨0, by omega, by omega, rfl, rfl, rfl⟩
    case round =>
      obtain ⟨j, hjg, hjk, rfl, rfl, rfl⟩ := hrel
      by_cases hlt : j < k
      · have hjb : j < b.size := by omega
        have h47 := HP.out.1 j hjb hlt
        obtain ⟨x, hx⟩ : ∃ x, b[j] = x := ⟨_, rfl⟩
        rw [hx] at h47
        go_wp2
        go_roundg (gk - 1)
        case measure => omega
        case rel => exact ⟨j + 1, by omega, by omega, by go_num, rfl, rfl⟩
      · obtain rfl : j = k := by omega
        have h47 := HP.out.2.1 hkq
        obtain ⟨x, hx⟩ : ∃ x, b[j] = x := ⟨_, rfl⟩
        rw [hx] at h47
        go_wp2_with fail
        refine (HP.out.2.2.1 _).mono ?_
        intro e w2 h2
        obtain ⟨a1, n1, c1, rfl, hn1, hb2⟩ := h2.some_
        have hbw := below_next' HX.out.1 hb2
        have hB2 := HX.out.2.1.below hb2
        have HG := Lib.hid (And.intro hbw (And.intro hB2 hn1))
        clear hb2 h2 hbw hB2 hn1
        go_wp2_with fail
        obtain ⟨W3, hW3⟩ : ∃ W3, w2.alloc (.cells #[.int .u32 1] 58) = W3 := ⟨_, rfl⟩
        have hb3 : Below w2.heap.size w2 W3 := by rw [← hW3]; exact below_alloc1 _ _
        have hone : W3.cell? ⟨w2.heap.size, 0, none⟩ = some (.int .u32 1) := by rw [← hW3, World.cell?_alloc_new]; rfl
        rw [hW3]
        clear hW3
        have HK := Lib.hid (And.intro (HG.out.2.1.below hb3) (And.intro (below_next' HG.out.1 hb3) (HG.out.2.2.below hb3)))
        clear hb3 hone
        go_wp2_with fail
        refine (HP.out.2.2.2 _).mono ?_
        intro e w4 h4
        obtain ⟨rfl, hb4⟩ := h4.none_
        have hbw := below_next' HK.out.2.1 hb4
        have hB2 := HK.out.1.below hb4
        obtain ⟨⟨t0, t1, t2⟩, i0, i1, i2⟩ := hB2.three
        have HF := Lib.hid (And.intro hbw hB2)
        clear hb4 h4 hbw hB2
        go_wp2
        refine bodyPost_ret (v := .tuple #[.agg #[.bool false, .slice none 0 0, .slice none 0 0], .bool false]) (by simp [results, Try.results18, go_sem, t0, t1, t2]) rfl ⟨rfl, below_set3 HF.out.1 (by omega) _ _ _⟩
  · subst hb
    have hs0' : 0 < b.size := by omega
    have hc := hc hs0'
    go_enter Try.func18, Try.ntmps18
    go_wp2_with fail
    rw [HX.out.2.2]
    go_loopg [5, 6] (b.size + 1) (fun g x y wy => ∃ j : Nat, j + g = b.size + 1 ∧ j ≤ k ∧ y = .int .i64 j ∧ x = .int .i64 b.size ∧ W0 = wy)
    case atStart => exact ⟨0, by omega, by omega, rfl, rfl, rfl⟩
    case round =>
      obtain ⟨j, hjg, hjk, rfl, rfl, rfl⟩ := hrel
      by_cases hlt : j < k
      · have hjb : j < b.size := by omega
        have h47 := HP.out.1 j hjb hlt
        obtain ⟨x, hx⟩ : ∃ x, b[j] = x := ⟨_, rfl⟩
        rw [hx] at h47
        go_wp2
        go_roundg (gk - 1)
        case measure => omega
        case rel => exact ⟨j + 1, by omega, by omega, by go_num, rfl, rfl⟩
      · obtain rfl : j = k := by omega
        have h47 := HP.out.2.1 hkq
        obtain ⟨x, hx⟩ : ∃ x, b[j] = x := ⟨_, rfl⟩
        rw [hx] at h47
        go_wp2_with fail
        refine (HP.out.2.2.1 _).mono ?_
        intro e w2 h2
        obtain ⟨a1, n1, c1, rfl, hn1, hb2⟩ := h2.some_
        have hbw := below_next' HX.out.1 hb2
        have hB2 := HX.out.2.1.below hb2
        have HG := Lib.hid (And.intro hbw (And.intro hB2 hn1))
        clear hb2 h2 hbw hB2 hn1
        go_wp2_with fail
        obtain ⟨W3, hW3⟩ : ∃ W3, w2.alloc (.cells #[.int .u32 1] 58) = W3 := ⟨_, rfl⟩
        have hb3 : Below w2.heap.size w2 W3 := by rw [← hW3]; exact below_alloc1 _ _
        have hone : W3.cell? ⟨w2.heap.size, 0, none⟩ = some (.int .u32 1) := by rw [← hW3, World.cell?_alloc_new]; rfl
        rw [hW3]
        clear hW3
        have HK := Lib.hid (And.intro (HG.out.2.1.below hb3) (And.intro (below_next' HG.out.1 hb3) (HG.out.2.2.below hb3)))
        clear hb3 hone
        go_wp2_with fail
        refine (HP.out.2.2.2 _).mono ?_
        intro e w4 h4
        obtain ⟨rfl, hb4⟩ := h4.none_
        have hbw := below_next' HK.out.2.1 hb4
        have hB2 := HK.out.1.below hb4
        obtain ⟨⟨t0, t1, t2⟩, i0, i1, i2⟩ := hB2.three
        have HF := Lib.hid (And.intro hbw hB2)
        clear hb4 h4 hbw hB2
        go_wp2
        refine bodyPost_ret (v := .tuple #[.agg #[.bool false, .slice none 0 0, .slice none 0 0], .bool false]) (by simp [results, Try.results18, go_sem, t0, t1, t2]) rfl ⟨rfl, below_set3 HF.out.1 (by omega) _ _ _⟩
  · exfalso; subst hb; omega

set_option maxHeartbeats 8000000 in
set_option maxRecDepth 20000 in
theorem refParse_den_zero {s b num den : ByteArray} {neg : Bool} {k : Nat} {n : Nat} (N : SignAt s b neg) (S : SlashAt b num den k) (hkq : k < b.size) (hs : s.size ≤ 500) (hbs : b.size ≤ 500) 
    (d1 : ∀ w, Calls Try.prog 53 #[.string num] w (DigP (some n) w)) (d2 : ∀ w, Calls Try.prog 53 #[.string den] w (DigP (some 0) w)) (w : World) : Calls Try.prog 18 #[.string s] w (ParseP none w) := by
  have HP := Lib.hid (And.intro S.before (And.intro S.at_ (And.intro d1 d2)))
  have hnum := S.num
  have hkb := S.le
  have hden := S.den hkq
  clear S d1 d2
  obtain ⟨W0, hW0⟩ : ∃ W0, w.alloc (.cells #[.bool false, .slice none 0 0, .slice none 0 0] 24) = W0 := ⟨_, rfl⟩
  have hbw : Below w.heap.size w W0 := by rw [← hW0]; exact below_alloc1 _ _
  have hB : BoxV W0 w.heap.size w.heap.size 24 [.bool false, .slice none 0 0, .slice none 0 0] := by rw [← hW0]; exact BoxV.new w w.heap.size 24 (Nat.le_refl _) [.bool false, .slice none 0 0, .slice none 0 0]
  have HX := Lib.hid (And.intro hbw (And.intro hB hW0))
  clear hbw hB hW0
  rcases N with ⟨rfl, hb, hs1, c, hc, h45⟩ | ⟨rfl, hb, hs1, c, hc, h45⟩ | ⟨rfl, hb, hs0⟩
  · have hs0' : 0 < s.size := by omega
    have hc := hc hs0'
    go_enter Try.func18, Try.ntmps18
    go_wp2_with fail
    rw [HX.out.2.2]
    go_loopg [5, 6] (b.size + 1) (fun g x y wy => ∃ j : Nat, j + g = b.size + 1 ∧ j ≤ k ∧ y = .int .i64 j ∧ x = .int .i64 b.size ∧ W0 = wy)
    case atStart => exact ⟨0, by omega, by omega, rfl, rfl, rfl⟩
    case round =>
      obtain ⟨j, hjg, hjk, rfl, rfl, rfl⟩ := hrel
      by_cases hlt : j < k
      · have hjb : j < b.size := by omega
        have h47 := HP.out.1 j hjb hlt
        obtain ⟨x, hx⟩ : ∃ x, b[j] = x := ⟨_, rfl⟩
        rw [hx] at h47
        go_wp2
        go_roundg (gk - 1)
        case measure => omega
        case rel => exact ⟨j + 1, by omega, by omega, by go_num, rfl, rfl⟩
      · obtain rfl : j = k := by omega
        have h47 := HP.out.2.1 hkq
        obtain ⟨x, hx⟩ : ∃ x, b[j] = x := ⟨_, rfl⟩
        rw [hx] at h47
        go_wp2_with fail
        refine (HP.out.2.2.1 _).mono ?_
        intro e w2 h2
        obtain ⟨a1, n1, c1, rfl, hn1, hb2⟩ := h2.some_
        have hbw := below_next' HX.out.1 hb2
        have hB2 := HX.out.2.1.below hb2
        have HG := Lib.hid (And.intro hbw (And.intro hB2 hn1))
        clear hb2 h2 hbw hB2 hn1
        go_wp2_with fail
        obtain ⟨W3, hW3⟩ : ∃ W3, w2.alloc (.cells #[.int .u32 1] 58) = W3 := ⟨_, rfl⟩
        have hb3 : Below w2.heap.size w2 W3 := by rw [← hW3]; exact below_alloc1 _ _
        have hone : W3.cell? ⟨w2.heap.size, 0, none⟩ = some (.int .u32 1) := by rw [← hW3, World.cell?_alloc_new]; rfl
        rw [hW3]
        clear hW3
        have HK := Lib.hid (And.intro (HG.out.2.1.below hb3) (And.intro (below_next' HG.out.1 hb3) (HG.out.2.2.below hb3)))
        clear hb3 hone
        go_wp2_with fail
        refine (HP.out.2.2.2 _).mono ?_
        intro e w4 h4
        obtain ⟨a2, n2, c2, rfl, hn2, hb4⟩ := h4.some_
        have hz : n2 = 0 := (nt_len hn2).2 rfl
        subst hz
        have hbw := below_next' HK.out.2.1 hb4
        have hB2 := HK.out.1.below hb4
        obtain ⟨⟨t0, t1, t2⟩, i0, i1, i2⟩ := hB2.three
        have HF := Lib.hid (And.intro hbw hB2)
        clear hb4 h4 hbw hB2 hn2
        go_wp2
        refine bodyPost_ret (v := .tuple #[.agg #[.bool false, .slice none 0 0, .slice none 0 0], .bool false]) (by simp [results, Try.results18, go_sem, t0, t1, t2]) rfl ⟨rfl, below_set3 HF.out.1 (by omega) _ _ _⟩
  · subst hb
    have hs0' : 0 < b.size := by omega
    have hc := hc hs0'
    go_enter Try.func18, Try.ntmps18
    go_wp2_with fail
    rw [HX.out.2.2]
    go_loopg [5, 6] (b.size + 1) (fun g x y wy => ∃ j : Nat, j + g = b.size + 1 ∧ j ≤ k ∧ y = .int .i64 j ∧ x = .int .i64 b.size ∧ W0 = wy)
    case atStart => exact ⟨0, by omega, by omega, rfl, rfl, rfl⟩
    case round =>
      obtain ⟨j, hjg, hjk, rfl, rfl, rfl⟩ := hrel
      by_cases hlt : j < k
      · have hjb : j < b.size := by omega
        have h47 := HP.out.1 j hjb hlt
        obtain ⟨x, hx⟩ : ∃ x, b[j] = x := ⟨_, rfl⟩
        rw [hx] at h47
        go_wp2
        go_roundg (gk - 1)
        case measure => omega
        case rel => exact ⟨j + 1, by omega, by omega, by go_num, rfl, rfl⟩
      · obtain rfl : j = k := by omega
        have h47 := HP.out.2.1 hkq
        obtain ⟨x, hx⟩ : ∃ x, b[j] = x := ⟨_, rfl⟩
        rw [hx] at h47
        go_wp2_with fail
        refine (HP.out.2.2.1 _).mono ?_
        intro e w2 h2
        obtain ⟨a1, n1, c1, rfl, hn1, hb2⟩ := h2.some_
        have hbw := below_next' HX.out.1 hb2
        have hB2 := HX.out.2.1.below hb2
        have HG := Lib.hid (And.intro hbw (And.intro hB2 hn1))
        clear hb2 h2 hbw hB2 hn1
        go_wp2_with fail
        obtain ⟨W3, hW3⟩ : ∃ W3, w2.alloc (.cells #[.int .u32 1] 58) = W3 := ⟨_, rfl⟩
        have hb3 : Below w2.heap.size w2 W3 := by rw [← hW3]; exact below_alloc1 _ _
        have hone : W3.cell? ⟨w2.heap.size, 0, none⟩ = some (.int .u32 1) := by rw [← hW3, World.cell?_alloc_new]; rfl
        rw [hW3]
        clear hW3
        have HK := Lib.hid (And.intro (HG.out.2.1.below hb3) (And.intro (below_next' HG.out.1 hb3) (HG.out.2.2.below hb3)))
        clear hb3 hone
        go_wp2_with fail
        refine (HP.out.2.2.2 _).mono ?_
        intro e w4 h4
        obtain ⟨a2, n2, c2, rfl, hn2, hb4⟩ := h4.some_
        have hz : n2 = 0 := (nt_len hn2).2 rfl
        subst hz
        have hbw := below_next' HK.out.2.1 hb4
        have hB2 := HK.out.1.below hb4
        obtain ⟨⟨t0, t1, t2⟩, i0, i1, i2⟩ := hB2.three
        have HF := Lib.hid (And.intro hbw hB2)
        clear hb4 h4 hbw hB2 hn2
        go_wp2
        refine bodyPost_ret (v := .tuple #[.agg #[.bool false, .slice none 0 0, .slice none 0 0], .bool false]) (by simp [results, Try.results18, go_sem, t0, t1, t2]) rfl ⟨rfl, below_set3 HF.out.1 (by omega) _ _ _⟩
  · exfalso; subst hb; omega

set_option maxHeartbeats 8000000 in
set_option maxRecDepth 20000 in
theorem refParse_den {s b num den : ByteArray} {neg : Bool} {k : Nat} {n d : Nat} (N : SignAt s b neg) (S : SlashAt b num den k) (hkq : k < b.size) (hs : s.size ≤ 500) (hbs : b.size ≤ 500) (hn : n < pw 23) (hd : d < pw 23) (hd0 : 0 < d)
    (d1 : ∀ w, Calls Try.prog 53 #[.string num] w (DigP (some n) w)) (d2 : ∀ w, Calls Try.prog 53 #[.string den] w (DigP (some d) w)) (w : World) : Calls Try.prog 18 #[.string s] w (ParseP (some (rat neg n d)) w) := by
  have HP := Lib.hid (And.intro S.before (And.intro S.at_ (And.intro d1 d2)))
  have hnum := S.num
  have hkb := S.le
  have hden := S.den hkq
  clear S d1 d2
  obtain ⟨W0, hW0⟩ : ∃ W0, w.alloc (.cells #[.bool false, .slice none 0 0, .slice none 0 0] 24) = W0 := ⟨_, rfl⟩
  have hbw : Below w.heap.size w W0 := by rw [← hW0]; exact below_alloc1 _ _
  have hB : BoxV W0 w.heap.size w.heap.size 24 [.bool false, .slice none 0 0, .slice none 0 0] := by rw [← hW0]; exact BoxV.new w w.heap.size 24 (Nat.le_refl _) [.bool false, .slice none 0 0, .slice none 0 0]
  have HX := Lib.hid (And.intro hbw (And.intro hB hW0))
  clear hbw hB hW0
  rcases N with ⟨rfl, hb, hs1, c, hc, h45⟩ | ⟨rfl, hb, hs1, c, hc, h45⟩ | ⟨rfl, hb, hs0⟩
  · have hs0' : 0 < s.size := by omega
    have hc := hc hs0'
    go_enter Try.func18, Try.ntmps18
    go_wp2_with fail
    rw [HX.out.2.2]
    go_loopg [5, 6] (b.size + 1) (fun g x y wy => ∃ j : Nat, j + g = b.size + 1 ∧ j ≤ k ∧ y = .int .i64 j ∧ x = .int .i64 b.size ∧ W0 = wy)
    case atStart => exact ⟨0, by omega, by omega, rfl, rfl, rfl⟩
    case round =>
      obtain ⟨j, hjg, hjk, rfl, rfl, rfl⟩ := hrel
      by_cases hlt : j < k
      · have hjb : j < b.size := by omega
        have h47 := HP.out.1 j hjb hlt
        obtain ⟨x, hx⟩ : ∃ x, b[j] = x := ⟨_, rfl⟩
        rw [hx] at h47
        go_wp2
        go_roundg (gk - 1)
        case measure => omega
        case rel => exact ⟨j + 1, by omega, by omega, by go_num, rfl, rfl⟩
      · obtain rfl : j = k := by omega
        have h47 := HP.out.2.1 hkq
        obtain ⟨x, hx⟩ : ∃ x, b[j] = x := ⟨_, rfl⟩
        rw [hx] at h47
        go_wp2_with fail
        refine (HP.out.2.2.1 _).mono ?_
        intro e w2 h2
        obtain ⟨a1, n1, c1, rfl, hn1, hb2⟩ := h2.some_
        have hbw := below_next' HX.out.1 hb2
        have hB2 := HX.out.2.1.below hb2
        have HG := Lib.hid (And.intro hbw (And.intro hB2 hn1))
        clear hb2 h2 hbw hB2 hn1
        go_wp2_with fail
        obtain ⟨W3, hW3⟩ : ∃ W3, w2.alloc (.cells #[.int .u32 1] 58) = W3 := ⟨_, rfl⟩
        have hb3 : Below w2.heap.size w2 W3 := by rw [← hW3]; exact below_alloc1 _ _
        have hone : W3.cell? ⟨w2.heap.size, 0, none⟩ = some (.int .u32 1) := by rw [← hW3, World.cell?_alloc_new]; rfl
        rw [hW3]
        clear hW3
        have HK := Lib.hid (And.intro (HG.out.2.1.below hb3) (And.intro (below_next' HG.out.1 hb3) (HG.out.2.2.below hb3)))
        clear hb3 hone
        go_wp2_with fail
        refine (HP.out.2.2.2 _).mono ?_
        intro e w4 h4
        obtain ⟨a2, n2, c2, rfl, hn2, hb4⟩ := h4.some_
        have hz : ¬ n2 = 0 := fun e => by have := (nt_len hn2).1 e; omega
        have hz2 : ((n2 : Int) == 0) = false := by rw [beq_eq_false_iff_ne]; omega
        have hB4 := HK.out.1.below hb4
        have hbw4 := below_next' HK.out.2.1 hb4
        obtain ⟨l1, hl1, hc1, hv1⟩ := HK.out.2.2.below hb4
        obtain ⟨l2, hl2, hc2, hv2⟩ := hn2
        have hcan := build_any true _ _ l1 l2 w4 hl1 hl2 (by have := cano_len hc1 (by rw [hv1]; exact hn); omega) (by have := cano_len hc2 (by rw [hv2]; exact hd); omega)
        rw [hv1, hv2] at hcan
        have HM := Lib.hid (And.intro hcan (And.intro hB4 hbw4))
        clear hb4 h4 hB4 hbw4 hcan hl1 hl2 hc1 hc2 hv1 hv2
        go_wp2_with fail
        refine HM.out.1.mono ?_
        rintro e w5 ⟨v, rfl, hv, hb5⟩
        have hbb := below_next' HM.out.2.2 hb5
        have hB5 := HM.out.2.1.below hb5
        clear hb5
        obtain ⟨yn, yl, yc, dn, dl, dc, rfl, hzn, hzd⟩ := hv
        obtain ⟨⟨t0, t1, t2⟩, i0, i1, i2⟩ := hB5.three
        have HF := Lib.hid (And.intro hzn (And.intro hzd (And.intro hbb hB5)))
        clear hzn hzd hbb hB5
        go_wp2
        obtain ⟨hzn, hzd, hbw3, hB5⟩ := HF.out
        refine bodyPost_ret (v := .tuple #[.agg #[.bool (decide ((rat true n d).num < 0)), .slice yn yl yc, .slice dn dl dc], .bool true]) (by simp [results, Try.results18, go_sem, t0, t1, t2]) rfl ⟨⟨.agg #[.bool (decide ((rat true n d).num < 0)), .slice yn yl yc, .slice dn dl dc], rfl, ?_⟩, below_set3 hbw3 (by omega) _ _ _⟩
        exact RatC.other (⟨yn, yl, yc, dn, dl, dc, rfl, hzn, hzd⟩ : RatC w5 _ (rat true n d)) hB5 noLimb_nil3 (grown_set3 _ _ _ _ _)
  · subst hb
    have hs0' : 0 < b.size := by omega
    have hc := hc hs0'
    go_enter Try.func18, Try.ntmps18
    go_wp2_with fail
    rw [HX.out.2.2]
    go_loopg [5, 6] (b.size + 1) (fun g x y wy => ∃ j : Nat, j + g = b.size + 1 ∧ j ≤ k ∧ y = .int .i64 j ∧ x = .int .i64 b.size ∧ W0 = wy)
    case atStart => exact ⟨0, by omega, by omega, rfl, rfl, rfl⟩
    case round =>
      obtain ⟨j, hjg, hjk, rfl, rfl, rfl⟩ := hrel
      by_cases hlt : j < k
      · have hjb : j < b.size := by omega
        have h47 := HP.out.1 j hjb hlt
        obtain ⟨x, hx⟩ : ∃ x, b[j] = x := ⟨_, rfl⟩
        rw [hx] at h47
        go_wp2
        go_roundg (gk - 1)
        case measure => omega
        case rel => exact ⟨j + 1, by omega, by omega, by go_num, rfl, rfl⟩
      · obtain rfl : j = k := by omega
        have h47 := HP.out.2.1 hkq
        obtain ⟨x, hx⟩ : ∃ x, b[j] = x := ⟨_, rfl⟩
        rw [hx] at h47
        go_wp2_with fail
        refine (HP.out.2.2.1 _).mono ?_
        intro e w2 h2
        obtain ⟨a1, n1, c1, rfl, hn1, hb2⟩ := h2.some_
        have hbw := below_next' HX.out.1 hb2
        have hB2 := HX.out.2.1.below hb2
        have HG := Lib.hid (And.intro hbw (And.intro hB2 hn1))
        clear hb2 h2 hbw hB2 hn1
        go_wp2_with fail
        obtain ⟨W3, hW3⟩ : ∃ W3, w2.alloc (.cells #[.int .u32 1] 58) = W3 := ⟨_, rfl⟩
        have hb3 : Below w2.heap.size w2 W3 := by rw [← hW3]; exact below_alloc1 _ _
        have hone : W3.cell? ⟨w2.heap.size, 0, none⟩ = some (.int .u32 1) := by rw [← hW3, World.cell?_alloc_new]; rfl
        rw [hW3]
        clear hW3
        have HK := Lib.hid (And.intro (HG.out.2.1.below hb3) (And.intro (below_next' HG.out.1 hb3) (HG.out.2.2.below hb3)))
        clear hb3 hone
        go_wp2_with fail
        refine (HP.out.2.2.2 _).mono ?_
        intro e w4 h4
        obtain ⟨a2, n2, c2, rfl, hn2, hb4⟩ := h4.some_
        have hz : ¬ n2 = 0 := fun e => by have := (nt_len hn2).1 e; omega
        have hz2 : ((n2 : Int) == 0) = false := by rw [beq_eq_false_iff_ne]; omega
        have hB4 := HK.out.1.below hb4
        have hbw4 := below_next' HK.out.2.1 hb4
        obtain ⟨l1, hl1, hc1, hv1⟩ := HK.out.2.2.below hb4
        obtain ⟨l2, hl2, hc2, hv2⟩ := hn2
        have hcan := build_any false _ _ l1 l2 w4 hl1 hl2 (by have := cano_len hc1 (by rw [hv1]; exact hn); omega) (by have := cano_len hc2 (by rw [hv2]; exact hd); omega)
        rw [hv1, hv2] at hcan
        have HM := Lib.hid (And.intro hcan (And.intro hB4 hbw4))
        clear hb4 h4 hB4 hbw4 hcan hl1 hl2 hc1 hc2 hv1 hv2
        go_wp2_with fail
        refine HM.out.1.mono ?_
        rintro e w5 ⟨v, rfl, hv, hb5⟩
        have hbb := below_next' HM.out.2.2 hb5
        have hB5 := HM.out.2.1.below hb5
        clear hb5
        obtain ⟨yn, yl, yc, dn, dl, dc, rfl, hzn, hzd⟩ := hv
        obtain ⟨⟨t0, t1, t2⟩, i0, i1, i2⟩ := hB5.three
        have HF := Lib.hid (And.intro hzn (And.intro hzd (And.intro hbb hB5)))
        clear hzn hzd hbb hB5
        go_wp2
        obtain ⟨hzn, hzd, hbw3, hB5⟩ := HF.out
        refine bodyPost_ret (v := .tuple #[.agg #[.bool (decide ((rat false n d).num < 0)), .slice yn yl yc, .slice dn dl dc], .bool true]) (by simp [results, Try.results18, go_sem, t0, t1, t2]) rfl ⟨⟨.agg #[.bool (decide ((rat false n d).num < 0)), .slice yn yl yc, .slice dn dl dc], rfl, ?_⟩, below_set3 hbw3 (by omega) _ _ _⟩
        exact RatC.other (⟨yn, yl, yc, dn, dl, dc, rfl, hzn, hzd⟩ : RatC w5 _ (rat false n d)) hB5 noLimb_nil3 (grown_set3 _ _ _ _ _)
  · exfalso; subst hb; omega


theorem sign_at (s : ByteArray) : SignAt s (body s) (negB s.data.toList) := by
  by_cases h0 : s.size = 0
  · have hl : s.data.toList = [] := by rw [← List.length_eq_zero_iff, size_data]; exact h0
    right; right
    have hn : negB s.data.toList = false := by rw [hl]; rfl
    exact ⟨hn, by unfold body; rw [hn]; rfl, h0⟩
  · have hd := byte_drop s 0 (by omega)
    rw [List.drop_zero] at hd
    obtain ⟨c, hc⟩ : ∃ c, s[0] = c := ⟨_, rfl⟩
    rw [hc] at hd
    have hn : negB s.data.toList = (45 == c) := by
      rw [hd]
      unfold negB preB
      simp [List.isPrefixOf]
    by_cases h : c = 45
    · left
      subst h
      have hn2 : negB s.data.toList = true := hn
      exact ⟨hn2, by unfold body; rw [hn2]; rfl, by omega, 45, fun _ => hc, rfl⟩
    · right; left
      have hn2 : negB s.data.toList = false := by rw [hn, beq_eq_false_iff_ne]; exact fun e => h e.symm
      refine ⟨hn2, by unfold body; rw [hn2]; rfl, by omega, c, fun _ => hc, ?_⟩
      rw [beq_eq_false_iff_ne]
      intro e
      apply h
      apply UInt8.toNat_inj.1
      have e2 : (45 : UInt8).toNat = 45 := rfl
      omega

theorem slash_at (b : ByteArray) (den : ByteArray) (hden : (fore b.data.toList).length < b.size → den = ⟨(aft b.data.toList).toArray⟩) :
    SlashAt b ⟨(fore b.data.toList).toArray⟩ den (fore b.data.toList).length ∧ ((fore b.data.toList).length < b.size ↔ 0 ≤ slash b.data.toList) := by
  have hpre : fore b.data.toList <+: b.data.toList := List.takeWhile_prefix _
  have hle := hpre.length_le
  rw [size_data] at hle
  have htake : b.data.toList.take (fore b.data.toList).length = fore b.data.toList := (List.prefix_iff_eq_take.1 hpre).symm
  have hall : (fore b.data.toList).all (fun x => x != 47) = true := List.all_takeWhile
  have key := index_tw b.data.toList 47
  refine ⟨⟨hle, fun j hj hjk => ?_, fun h => ?_, ?_, fun h => ?_⟩, ?_⟩
  · have hd := byte_drop b j hj
    obtain ⟨x, hx⟩ : ∃ x, b[j] = x := ⟨_, rfl⟩
    rw [hx] at hd ⊢
    have h2 : ((fore b.data.toList)).drop j = x :: (b.data.toList.drop (j + 1)).take ((fore b.data.toList).length - j - 1) := by
      rw [← htake, List.drop_take, hd, List.length_take, size_data, show min (fore b.data.toList).length b.size = (fore b.data.toList).length by omega]
      rw [show (fore b.data.toList).length - j = ((fore b.data.toList).length - j - 1) + 1 by omega, List.take_succ_cons]
      simp
    have h3 := all_at hall h2
    rw [beq_eq_false_iff_ne]
    intro e
    have e2 : x = 47 := UInt8.toNat_inj.1 (by have e3 : (47 : UInt8).toNat = 47 := rfl; omega)
    rw [e2] at h3; simp at h3
  · rcases key with ⟨k1, k2⟩ | ⟨k1, r, k2⟩
    · exfalso
      have : (fore b.data.toList).length = b.data.toList.length := congrArg List.length k2
      rw [size_data] at this
      omega
    · have hd := byte_drop b (fore b.data.toList).length h
      have k3 : b.data.toList.drop (fore b.data.toList).length = 47 :: r := k2
      rw [k3] at hd
      injection hd with hd _
      rw [← hd]; rfl
  · exact str_inj (by rw [Lib.extract_data, List.drop_zero, Nat.sub_zero, htake])
  · rw [hden h]
    exact str_inj (by rw [Lib.extract_data, List.take_of_length_le (by rw [List.length_drop, size_data]; exact Nat.le_refl _)]; rfl)
  · rcases key with ⟨k1, k2⟩ | ⟨k1, r, k2⟩
    · have e1 : (fore b.data.toList).length = b.data.toList.length := congrArg List.length k2
      rw [size_data] at e1
      have e2 : slash b.data.toList = -1 := k1
      rw [e1, e2]; omega
    · have e2 : slash b.data.toList = ((fore b.data.toList).length : Int) := k1
      have k3 : b.data.toList.drop (fore b.data.toList).length = 47 :: r := k2
      rw [e2]
      constructor
      · intro _; omega
      · intro _
        rcases Nat.lt_or_ge (fore b.data.toList).length b.size with h | h
        · exact h
        · rw [List.drop_of_length_le (by rw [size_data]; exact h)] at k3; cases k3

theorem refParse_any (s : ByteArray) (w : World) (hs : s.size ≤ 500) : Calls Try.prog 18 #[.string s] w (ParseP (parseR s.data.toList) w) := by
  have hbs := body_size s
  have hbd := body_data s
  have N := sign_at s
  obtain ⟨S, hsl⟩ := slash_at (body s) ⟨(aft (body s).data.toList).toArray⟩ (fun _ => rfl)

  have hfl : (fore (body s).data.toList).length ≤ (body s).data.toList.length := (List.takeWhile_prefix _).length_le
  have hal : (aft (body s).data.toList).length ≤ (body s).data.toList.length := by unfold aft; rw [List.length_drop]; omega
  rw [size_data] at hfl hal
  have d1 : ∀ w, Calls Try.prog 53 #[.string ⟨(fore (body s).data.toList).toArray⟩] w (DigP (digs (fore (body s).data.toList)) w) := fun w =>
    digits_any _ w (by rw [← size_data]; show (fore (body s).data.toList).length ≤ _; omega)
  have d2 : ∀ w, Calls Try.prog 53 #[.string ⟨(aft (body s).data.toList).toArray⟩] w (DigP (digs (aft (body s).data.toList)) w) := fun w =>
    digits_any _ w (by rw [← size_data]; show (aft (body s).data.toList).length ≤ _; omega)
  unfold parseR
  rw [← hbd]
  have hb5 : (body s).size ≤ 500 := by omega
  cases h1 : digs (fore (body s).data.toList) with
  | none =>
    rw [h1] at d1
    by_cases h2 : (fore (body s).data.toList).length < (body s).size
    · exact refParse_none_q N S h2 hs hb5 d1 d2 w
    · exact refParse_none N S (by omega) hs hb5 d1 d2 w
  | some n =>
    rw [h1] at d1
    have hn := digs_lt h1
    by_cases h2 : (fore (body s).data.toList).length < (body s).size
    · have h2' := hsl.1 h2
      simp only [if_pos h2']
      cases h3 : digs (aft (body s).data.toList) with
      | none => rw [h3] at d2; exact refParse_den_none N S h2 hs hb5 d1 d2 w
      | some d =>
        rw [h3] at d2
        by_cases h4 : d = 0
        · subst h4; simp only [if_true]; exact refParse_den_zero N S h2 hs hb5 d1 d2 w
        · simp only [if_neg h4]; exact refParse_den N S h2 hs hb5 hn (digs_lt h3) (by omega) d1 d2 w
    · have h2' : ¬ 0 ≤ slash (body s).data.toList := fun h => h2 (hsl.2 h)
      simp only [if_neg h2']
      have hne : ¬ (body s).size = 0 := by
        intro e
        have h5 : (fore (body s).data.toList).length = 0 := by omega
        rw [digs_long (.inl h5)] at h1; cases h1
      exact refParse_whole N S (by omega) hs hb5 hne hn d1 d2 w

end Go.Proofs.Ytdpiclmjdcjajaa

namespace Go.Proofs.Ytdpiclmjdcjajaa
open Go.RowKit Num

theorem parseR_sz {l : List UInt8} {q : Rat} (h : parseR l = some q) : Sz q 23 := by
  unfold parseR at h
  split at h
  · cases h
  · rename_i n h1
    have hn := digs_lt h1
    split at h
    · split at h
      · cases h
      · rename_i d h3
        have hd := digs_lt h3
        split at h
        · cases h
        · injection h with h
          rw [← h]
          exact sz_rat hn hd (by omega)
    · injection h with h
      rw [← h]
      exact sz_rat hn (Nat.lt_of_lt_of_le (by decide : 1 < pw 1) (pw_le (by omega))) (by omega)

def TrueP' (w : World) (e : Ending) (w' : World) : Prop := e = .returned (.bool true) ∧ Below w.heap.size w w'

set_option maxHeartbeats 1000000 in
theorem sameZ_any (w : World) : Calls Try.prog 19 #[.agg #[.bool false, .slice none 0 0, .slice none 0 0], .agg #[.bool false, .slice none 0 0, .slice none 0 0]] w (TrueP' w) := by
  have sl : ∀ W, Calls Try.prog 55 #[.slice none 0 0, .slice none 0 0] W (TrueP' W) := fun W =>
    (sameLimbs_any (.slice none 0 0) (.slice none 0 0) [] [] W (Lim.nil W) (Lim.nil W) (by simp)).mono fun e w' ⟨b, he, hi, hb⟩ => ⟨by rw [he, hi.2 rfl], hb⟩
  have HS := Lib.hid sl
  clear sl
  go_enter Try.func19, Try.ntmps19
  go_wp2_with fail
  obtain ⟨W0, hW0⟩ : ∃ W0, (w.alloc (.cells #[.bool false, .slice none 0 0, .slice none 0 0] 24)).alloc (.cells #[.bool false, .slice none 0 0, .slice none 0 0] 24) = W0 := ⟨_, rfl⟩
  have hbw : Below w.heap.size w W0 := by rw [← hW0]; exact below_alloc2 _ _ _
  have hbx : BoxV W0 w.heap.size (w.heap.size + 1) 24 [.bool false, .slice none 0 0, .slice none 0 0] := by
    rw [← hW0]
    have := BoxV.new (w.alloc (.cells #[.bool false, .slice none 0 0, .slice none 0 0] 24)) w.heap.size 24 (by simp) [.bool false, .slice none 0 0, .slice none 0 0]
    simpa using this
  have hby : BoxV W0 w.heap.size w.heap.size 24 [.bool false, .slice none 0 0, .slice none 0 0] := by
    rw [← hW0]
    exact (BoxV.new w w.heap.size 24 (Nat.le_refl _) [.bool false, .slice none 0 0, .slice none 0 0]).alloc _
  rw [hW0]
  clear hW0
  refine (HS.out _).mono ?_
  rintro e w1 ⟨rfl, hb1⟩
  obtain ⟨⟨k0, k1, k2⟩, _⟩ := (hby.below hb1).three
  obtain ⟨⟨r0, r1, r2⟩, _⟩ := (hbx.below hb1).three
  have HX := Lib.hid (And.intro hbw hb1)
  clear hbw hbx hby hb1
  go_wp2_with fail
  refine (HS.out _).mono ?_
  rintro e w2 ⟨rfl, hb2⟩
  have HY := Lib.hid hb2
  clear hb2
  go_wp2
  go_ret
  exact ⟨rfl, below_next' HX.out.1 (below_next HX.out.2 HY.out)⟩

set_option maxHeartbeats 2000000 in
theorem parses_go (s : ByteArray) (w : World) (hs : s.size ≤ 500) (ok : Bool) (S : World → Value → Prop)
    (c1 : ∀ W, Calls Try.prog 17 #[.string s] W fun e w' => ∃ n a l c d m g, e = .returned (.tuple #[.agg #[.bool n, .slice a l c, .slice d m g], .bool ok]) ∧ Below W.heap.size W w' ∧ (∀ W', Below w'.heap.size w' W' → ∀ v, S W' v → Calls Try.prog 19 #[.agg #[.bool n, .slice a l c, .slice d m g], v] W' (TrueP' W')))
    (c2 : ∀ W, Calls Try.prog 18 #[.string s] W fun e w' => ∃ n a l c d m g, e = .returned (.tuple #[.agg #[.bool n, .slice a l c, .slice d m g], .bool ok]) ∧ Below W.heap.size W w' ∧ (∀ W', Below w'.heap.size w' W' → S W' (.agg #[.bool n, .slice a l c, .slice d m g]))) :
    Calls Try.prog 3 #[.string s] w (TrueP' w) := by
  have HC := Lib.hid (And.intro c1 c2)
  clear c1 c2
  go_enter Try.func3, Try.ntmps3
  go_wp2_with fail
  refine (HC.out.1 _).mono ?_
  rintro e w1 ⟨n, a, l, c, d, m, g, rfl, hb1, hS⟩
  have H1 := Lib.hid (And.intro hb1 hS)
  clear hb1 hS
  go_wp2_with fail
  refine (HC.out.2 _).mono ?_
  rintro e w2 ⟨n', a', l', c', d', m', g', rfl, hb2, hS2⟩
  have H2 := Lib.hid (And.intro hb2 hS2)
  have hb0 := BoxV.new w1 w1.heap.size 24 (Nat.le_refl _) [.bool n, .slice a l c, .slice d m g]
  obtain ⟨⟨x0, x1, x2⟩, _⟩ := (hb0.below hb2).three
  have hz : w1.heap.size < w2.heap.size := by have := hb2.size; simp at this; omega
  clear hb2 hS2 hb0
  go_wp2_with fail
  have hbA : Below w.heap.size w (w2.alloc (.cells #[.bool n', .slice a' l' c', .slice d' m' g'] 24)) :=
    below_next' (below_next' (below_next' H1.out.1 (below_alloc1 w1 _)) H2.out.1) (below_alloc1 w2 _)
  have hbB : Below w1.heap.size w1 (w2.alloc (.cells #[.bool n', .slice a' l' c', .slice d' m' g'] 24)) :=
    below_next' (below_next' (below_alloc1 w1 _) H2.out.1) (below_alloc1 w2 _)
  refine (H1.out.2 _ hbB _ (H2.out.2 _ (below_alloc1 w2 _))).mono ?_
  rintro e w3 ⟨rfl, hb3⟩
  have H3 := Lib.hid (And.intro hbA hb3)
  clear hbA hbB hb3
  go_wp2_with fail
  refine (awake_any _).mono ?_
  rintro e w4 ⟨rfl, hb4⟩
  have H4 := Lib.hid hb4
  clear hb4
  go_wp2
  go_ret
  exact ⟨rfl, below_next' H3.out.1 (below_next H3.out.2 H4.out)⟩

theorem parses_any (s : ByteArray) (w : World) (hs0 : s.size ≤ maxLen) : Calls Try.prog 3 #[.string s] w (TrueP' w) := by
  by_cases hs : s.size ≤ 500
  · have p1 := fun W => parse_any s W hs
    have p2 := fun W => refParse_any s W hs
    cases h : parseR s.data.toList with
    | none =>
      rw [h] at p1 p2
      refine parses_go s w hs false (fun _ v => v = .agg #[.bool false, .slice none 0 0, .slice none 0 0]) (fun W => ?_) (fun W => ?_)
      · refine (p1 W).mono ?_
        rintro e w' ⟨he, hb⟩
        exact ⟨false, none, 0, 0, none, 0, 0, he, hb, fun W' _ v hv => by rw [hv]; exact sameZ_any W'⟩
      · refine (p2 W).mono ?_
        rintro e w' ⟨he, hb⟩
        exact ⟨false, none, 0, 0, none, 0, 0, he, hb, fun W' _ => rfl⟩
    | some q =>
      have hq := parseR_sz h
      rw [h] at p1 p2
      refine parses_go s w hs true (fun W v => RatC W v q) (fun W => ?_) (fun W => ?_)
      · refine (p1 W).mono ?_
        rintro e w' ⟨⟨v, he, hr⟩, hb⟩
        have hr' := hr
        obtain ⟨an, ln, cn, ad, ld, cd, rfl, h1, h2⟩ := hr
        exact ⟨_, an, ln, cn, ad, ld, cd, he, hb, fun W' hb' v hv => (sameRat_any _ v q q 23 W' (hr'.below hb') hv hq (by omega)).mono fun e w' ⟨b, he, hi, hb⟩ => ⟨by rw [he, hi.2 rfl], hb⟩⟩
      · refine (p2 W).mono ?_
        rintro e w' ⟨⟨v, he, hr⟩, hb⟩
        have hr' := hr
        obtain ⟨an, ln, cn, ad, ld, cd, rfl, h1, h2⟩ := hr
        exact ⟨_, an, ln, cn, ad, ld, cd, he, hb, fun W' hb' => hr'.below hb'⟩
  · have hs2 : 500 < s.size := by omega
    unfold maxLen at hs0
    clear hs
    go_enter Try.func3, Try.ntmps3
    go_wp2
    go_ret
    exact ⟨rfl, Below.refl _ _⟩

end Go.Proofs.Ytdpiclmjdcjajaa

