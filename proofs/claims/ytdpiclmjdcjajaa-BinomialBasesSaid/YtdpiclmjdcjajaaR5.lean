/-
  The walks of sameLimbs, SameRat, Sign and awake: at most 50000 limbs.
-/
import Derived.Test.YtdpiclmjdcjajaaR4
namespace Go.Proofs.Ytdpiclmjdcjajaa
open Go.RowKit Num

def SameP (p : Prop) (w : World) (e : Ending) (w' : World) : Prop := ∃ b : Bool, e = .returned (.bool b) ∧ (b = true ↔ p) ∧ Below w.heap.size w w'

theorem take_ext {a b : List Nat} {k : Nat} (hl : a.length = b.length) (hk : k = a.length) (h : ∀ i, i < k → nth a i = nth b i) : a = b := ext_nth hl fun i hi => h i (by omega)

set_option maxHeartbeats 2000000 in
theorem sameLimbs_eq (a b : Option Addr) (n ca cb : Nat) (l1 l2 : List Nat) (w : World) (hn1 : l1.length = n) (hn2 : l2.length = n) (h1 : Lim w (.slice a n ca) l1) (h2 : Lim w (.slice b n cb) l2) (hn : n ≤ 1000000) :
    Calls Try.prog 55 #[.slice a n ca, .slice b n cb] w (SameP (l1 = l2) w) := by
  obtain ⟨a', ca', e1, x1, x2, x3, x4⟩ := h1
  obtain ⟨b', cb', e2, y1, y2, y3, y4⟩ := h2
  simp only [Value.slice.injEq] at e1 e2
  obtain ⟨rfl, h_, rfl⟩ := e1
  obtain ⟨rfl, h__, rfl⟩ := e2
  clear h_ h__
  rw [hn1] at x4
  rw [hn2] at y4
  have HN := Lib.hid (And.intro hn1 hn2)
  clear hn1 hn2 x1 x2 y1 y2
  go_enter Try.func55, Try.ntmps55
  go_wp2
  go_loopw [13] (fun i wr => ∃ (k : Nat), k ≤ n ∧ i = .int .i64 k ∧ (∀ j, j < k → nth l1 j = nth l2 j) ∧ ∃ m, wr = w.drewN m) (fun i _ => n - (intOf i).toNat)
  case atStart => exact ⟨0, Nat.zero_le _, rfl, fun j hj => by omega, 0, rfl⟩
  case round =>
    obtain ⟨k, hk, rfl, hz, m, rfl⟩ := hrel
    by_cases hlt : k < n
    · obtain ⟨ba, oa, rfl, acell⟩ := x4 k hlt
      obtain ⟨bb, ob, rfl, bcell'⟩ := y4 k hlt
      have ha := x3 k
      have hb := y3 k
      have H := Lib.hid (And.intro x3 (And.intro x4 (And.intro y3 (And.intro y4 hz))))
      clear x3 x4 y3 y4 hz
      by_cases hx : nth l1 k = nth l2 k
      · rw [hx] at acell
        have HX := Lib.hid hx
        clear hx
        go_wp2
        go_quiet (fail)
        go_wp2
        go_roundw
        case rel =>
          obtain ⟨x3, x4, y3, y4, hz⟩ := H.out
          refine ⟨k + 1, by omega, by go_num, fun j hj => ?_, _, by first | rfl | rw [World.drewN_drewN]⟩
          rcases Nat.lt_or_eq_of_le (Nat.le_of_lt_succ hj) with h | h
          · exact hz j h
          · rw [h]; exact HX.out
        case measure => simp [intOf]; omega
      · have hxi : ((nth l1 k : Int) != (nth l2 k : Int)) = true := by simp; omega
        go_wp2
        go_quiet (fail)
        go_wp2
        go_ret
        refine ⟨false, rfl, ⟨fun h => (by cases h), fun h => absurd (by rw [h]) hx⟩, ?_⟩
        first | exact below_drewN (Below.refl _ _) _ | (rw [World.drewN_drewN]; exact below_drewN (Below.refl _ _) _)
    · have H := Lib.hid hz
      clear hz x3 x4 y3 y4
      go_wp2
      go_ret
      exact ⟨true, rfl, ⟨fun _ => ext_nth (by rw [HN.out.1, HN.out.2]) (fun i hi => H.out i (by have := HN.out.1; omega)), fun _ => rfl⟩, below_drewN (Below.refl _ _) _⟩

set_option maxHeartbeats 1000000 in
theorem sameLimbs_any (u v : Value) (l1 l2 : List Nat) (w : World) (h1 : Lim w u l1) (h2 : Lim w v l2) (hn1 : l1.length ≤ 1000000) : Calls Try.prog 55 #[u, v] w (SameP (l1 = l2) w) := by
  have h1' := h1
  have h2' := h2
  obtain ⟨a, ca, rfl, _⟩ := h1
  obtain ⟨b, cb, rfl, _⟩ := h2
  by_cases hl : l1.length = l2.length
  · rw [← hl] at h2' ⊢
    exact sameLimbs_eq a b l1.length ca cb l1 l2 w rfl hl.symm h1' h2' hn1
  · have hb : ((l1.length : Int) != (l2.length : Int)) = true := by simp; omega
    clear h1' h2'
    go_enter Try.func55, Try.ntmps55
    go_wp2
    go_ret
    exact ⟨false, rfl, ⟨fun h => (by cases h), fun h => absurd (by rw [h]) hl⟩, Below.refl _ _⟩

theorem rat_eq_iff (p q : Rat) : p = q ↔ ((decide (p.num < 0) = decide (q.num < 0)) ∧ p.num.natAbs = q.num.natAbs ∧ p.den = q.den) := by
  constructor
  · rintro rfl; exact ⟨rfl, rfl, rfl⟩
  · rintro ⟨h1, h2, h3⟩
    rw [← rat_self p, ← rat_self q, h1, h2, h3]

theorem sameNt_any (u v : Value) (x y k : Nat) (w : World) (h1 : Nt w u x) (h2 : Nt w v y) (hx : x < pw k) (hk : k ≤ 1000000) : Calls Try.prog 55 #[u, v] w (SameP (x = y) w) := by
  obtain ⟨l1, h1, c1, rfl⟩ := h1
  obtain ⟨l2, h2, c2, rfl⟩ := h2
  have := cano_len c1 hx
  refine (sameLimbs_any u v l1 l2 w h1 h2 (by omega)).mono ?_
  rintro e w' ⟨b, rfl, hb, hw⟩
  exact ⟨b, rfl, hb.trans ⟨fun h => by rw [h], fun h => can_unique c1 c2 h⟩, hw⟩

set_option maxHeartbeats 4000000 in
theorem sameRat_any (u v : Value) (p q : Rat) (k : Nat) (w : World) (h1 : RatC w u p) (h2 : RatC w v q) (hs : Sz p k) (hk : k ≤ 50000) : Calls Try.prog 19 #[u, v] w (SameP (p = q) w) := by
  obtain ⟨an, ln, cn, ad, ld, cd, rfl, hn1, hd1⟩ := h1
  obtain ⟨bn, mn, en, bd, md, ed, rfl, hn2, hd2⟩ := h2
  have hiff := rat_eq_iff p q
  obtain ⟨s1, hs1⟩ : ∃ s1, decide (p.num < 0) = s1 := ⟨_, rfl⟩
  obtain ⟨s2, hs2⟩ : ∃ s2, decide (q.num < 0) = s2 := ⟨_, rfl⟩
  rw [hs1, hs2] at hiff ⊢
  have hc1 := fun W (hW : Below w.heap.size w W) => sameNt_any _ _ _ _ k W (hn1.below hW) (hn2.below hW) hs.1 (by omega)
  have hc2 := fun W (hW : Below w.heap.size w W) => sameNt_any _ _ _ _ k W (hd1.below hW) (hd2.below hW) hs.2 (by omega)
  have HA := Lib.hid (And.intro hc1 (And.intro hc2 hiff))
  clear hn1 hd1 hn2 hd2 hs hs1 hs2 hc1 hc2 hiff
  have hb2 := fun (o o' : Obj) => below_alloc2 w o o'
  by_cases he : s1 = s2
  · subst he
    go_enter Try.func19, Try.ntmps19
    go_wp2_with fail
    obtain ⟨W0, hW0⟩ : ∃ W0, (w.alloc (.cells #[.bool s1, .slice an ln cn, .slice ad ld cd] 24)).alloc (.cells #[.bool s1, .slice bn mn en, .slice bd md ed] 24) = W0 := ⟨_, rfl⟩
    have hbw : Below w.heap.size w W0 := by rw [← hW0]; exact hb2 _ _
    have hbx : BoxV W0 w.heap.size (w.heap.size + 1) 24 [.bool s1, .slice bn mn en, .slice bd md ed] := by
      rw [← hW0]
      have := BoxV.new (w.alloc (.cells #[.bool s1, .slice an ln cn, .slice ad ld cd] 24)) w.heap.size 24 (by simp) [.bool s1, .slice bn mn en, .slice bd md ed]
      simpa using this
    have hby : BoxV W0 w.heap.size w.heap.size 24 [.bool s1, .slice an ln cn, .slice ad ld cd] := by
      rw [← hW0]
      exact (BoxV.new w w.heap.size 24 (Nat.le_refl _) [.bool s1, .slice an ln cn, .slice ad ld cd]).alloc _
    rw [hW0]
    clear hW0
    refine (HA.out.1 _ hbw).mono ?_
    rintro e w1 ⟨b1, rfl, hi1, hb1⟩
    obtain ⟨⟨k0, k1, k2⟩, _⟩ := (hby.below hb1).three
    obtain ⟨⟨r0, r1, r2⟩, _⟩ := (hbx.below hb1).three
    have HX := Lib.hid (And.intro hbw (And.intro hbx (And.intro hby (And.intro hi1 hb1))))
    clear hbw hbx hby hi1 hb1 hb2
    cases b1
    · go_wp2
      go_ret
      obtain ⟨hbw, hbx, hby, hi1, hb1⟩ := HX.out
      refine ⟨false, rfl, ⟨fun h => (by cases h), fun h => ?_⟩, below_next' hbw hb1⟩
      have := hi1.2 (HA.out.2.2.1 h).2.1
      cases this
    · go_wp2_with fail
      refine (HA.out.2.1 _ (below_next' HX.out.1 HX.out.2.2.2.2)).mono ?_
      rintro e w2 ⟨b2, rfl, hi2, hb2⟩
      have HY := Lib.hid (And.intro hi2 hb2)
      clear hi2 hb2
      go_wp2
      go_ret
      obtain ⟨hbw, hbx, hby, hi1, hb1⟩ := HX.out
      obtain ⟨hi2, hb2⟩ := HY.out
      have h1 : p.num.natAbs = q.num.natAbs := hi1.1 (by first | rfl | trivial)
      exact ⟨b2, rfl, hi2.trans ⟨fun h => HA.out.2.2.2 ⟨by first | trivial | rfl, h1, h⟩, fun h => (HA.out.2.2.1 h).2.2⟩, below_next' hbw (below_next hb1 hb2)⟩
  · have hb : (s1 == s2) = false := by simpa using he
    go_enter Try.func19, Try.ntmps19
    go_wp2
    go_ret
    exact ⟨false, rfl, ⟨fun h => (by cases h), fun h => absurd (HA.out.2.2.1 h).1 he⟩, hb2 _ _⟩

/-- The sign of a number. -/
def sgn (q : Rat) : Int := if q.num = 0 then 0 else if q.num < 0 then -1 else 1

theorem sgn_rat (neg : Bool) (n d : Nat) : sgn (rat neg n d) = if n = 0 ∨ d = 0 then 0 else if neg then -1 else 1 := by
  by_cases h : n = 0 ∨ d = 0
  · rw [if_pos h]
    rcases h with h | h <;> subst h
    · rw [rat_zero_num]; rfl
    · rw [rat_zero_den]; rfl
  · rw [if_neg h]
    have hn : 0 < n := by omega
    have hd : 0 < d := by omega
    have h1 := rat_neg_iff neg n d hn hd
    have h2 := rat_num_natAbs neg n d hd
    have h3 := div_gcd_pos (d := d) hn
    have h4 : (rat neg n d).num ≠ 0 := by omega
    unfold sgn
    rw [if_neg h4]
    cases neg
    · rw [if_neg (by simpa using h1)]; rfl
    · rw [if_pos (by simpa using h1)]; rfl

def SignP (q : Rat) (w : World) (e : Ending) (w' : World) : Prop := e = .returned (.int .i64 (sgn q)) ∧ Below w.heap.size w w'

set_option maxHeartbeats 4000000 in
theorem sign_any (v : Value) (k : Nat) (q : Rat) (w : World) (h : RatA w v k q) : Calls Try.prog 106 #[v] w (SignP q w) := by
  obtain ⟨neg, an, cn, ad, cd, l1, l2, rfl, h1, h2, hk1, hk2, rfl⟩ := h
  have hc1 := fun W (hW : Below w.heap.size w W) => denotesZero_any _ l1 W (h1.below hW)
  have hc2 := fun W (hW : Below w.heap.size w W) => denotesZero_any _ l2 W (h2.below hW)
  obtain ⟨n1, hn1⟩ : ∃ n1, l1.length = n1 := ⟨_, rfl⟩
  obtain ⟨n2, hn2⟩ : ∃ n2, l2.length = n2 := ⟨_, rfl⟩
  rw [hn1] at hc1 ⊢
  rw [hn2] at hc2 ⊢
  have hs := sgn_rat neg (val l1) (val l2)
  have HA := Lib.hid (And.intro hc1 (And.intro hc2 hs))
  have hb1 := fun (o : Obj) => below_alloc1 w o
  clear h1 h2 hk1 hk2 hn1 hn2 hc1 hc2 hs
  go_enter Try.func106, Try.ntmps106
  go_wp2_with fail
  refine (HA.out.1 _ (hb1 _)).mono ?_
  rintro e w1 ⟨b1, rfl, hi1, rfl⟩
  have H1 := Lib.hid hi1
  clear hi1
  cases b1
  · go_wp2_with fail
    refine (HA.out.2.1 _ (hb1 _)).mono ?_
    rintro e w1 ⟨b2, rfl, hi2, rfl⟩
    have H2 := Lib.hid hi2
    clear hi2
    cases b2
    · cases neg
      · go_wp2
        go_ret
        refine ⟨ret_int ?_, hb1 _⟩
        rw [HA.out.2.2, if_neg (fun h => ?_)]; rfl
        rcases h with h | h
        · have := H1.out.2 h; cases this
        · have := H2.out.2 h; cases this
      · go_wp2
        go_ret
        refine ⟨ret_int ?_, hb1 _⟩
        rw [HA.out.2.2, if_neg (fun h => ?_)]; rfl
        rcases h with h | h
        · have := H1.out.2 h; cases this
        · have := H2.out.2 h; cases this
    · go_wp2
      go_ret
      refine ⟨ret_int ?_, hb1 _⟩
      rw [HA.out.2.2, if_pos (.inr (H2.out.1 (by first | trivial | rfl)))]
  · go_wp2
    go_ret
    refine ⟨ret_int ?_, hb1 _⟩
    rw [HA.out.2.2, if_pos (.inl (H1.out.1 (by first | trivial | rfl)))]

theorem sz_of_small {q : Rat} (h1 : q.num.natAbs < 1000000000) (h2 : q.den < 1000000000) : Sz q 1 := ⟨by rw [show pw 1 = 1000000000 from rfl]; exact h1, by rw [show pw 1 = 1000000000 from rfl]; exact h2⟩

theorem nt_one {w : World} {g x : Nat} (h : w.cell? ⟨g, 0, none⟩ = some (.int .u32 x)) (h0 : x ≠ 0) (hx : x < 1000000000) : Nt w (.slice (some ⟨g, 0, none⟩) 1 1) x := by
  have h1 : ∀ i, nth [x] i < 1000000000 := fun i => by
    rcases i with _ | i
    · rw [nth_cons_zero]; omega
    · rw [nth_cons_succ, nth_nil]; omega
  refine ⟨[x], ⟨_, _, rfl, by simp, by omega, fun i => by have := h1 i; omega, fun i hi => ⟨_, 0, rfl, ?_⟩⟩, ⟨h1, .inr (by simpa [nth] using h0)⟩, by simp [val]⟩
  simp at hi; subst hi
  exact h

set_option maxHeartbeats 2000000 in
theorem awake_any (w : World) : Calls Try.prog 20 #[] w fun e w' => e = .returned (.bool true) ∧ Below w.heap.size w w' := by
  have hq : quo 6 (-4) = rat true 6 4 := rfl
  have hsm := fun W => small_any 6 (-4) W (by omega) (by omega) (by omega) (by omega)
  rw [hq] at hsm
  have HS := Lib.hid hsm
  clear hq hsm
  go_enter Try.func20, Try.ntmps20
  go_wp2_with fail
  refine (HS.out w).mono ?_
  rintro e w1 ⟨v, rfl, hv, hb1⟩
  have HV := Lib.hid (And.intro hv hb1)
  obtain ⟨an, ln, cn, ad, ld, cd, rfl, _⟩ := hv
  clear hb1
  go_wp2_with fail
  obtain ⟨hv, hb1⟩ := HV.out
  obtain ⟨W, hW⟩ : ∃ W, (w1.alloc (.cells #[.int .u32 3] 58)).alloc (.cells #[.int .u32 2] 58) = W := ⟨_, rfl⟩
  have hbW : Below w1.heap.size w1 W := by rw [← hW]; exact below_alloc2 _ _ _
  have e1 : (rat true 6 4).num.natAbs = 3 := by rw [rat_num_natAbs true 6 4 (by omega)]; decide
  have e2 : (rat true 6 4).den = 2 := by rw [rat_den true 6 4 (by omega)]; decide
  have hlit : RatC W (.agg #[.bool true, .slice (some ⟨w1.heap.size, 0, none⟩) 1 1, .slice (some ⟨w1.heap.size + 1, 0, none⟩) 1 1]) (rat true 6 4) := by
    refine ⟨_, _, _, _, _, _, by rw [rat_neg_iff true 6 4 (by omega) (by omega)], ?_, ?_⟩
    · rw [e1, ← hW]
      refine nt_one ?_ (by omega) (by omega)
      rw [World.cell?_alloc_past _ _ _ (by simp), World.cell?_alloc_at _ _ _ _ rfl]; rfl
    · rw [e2, ← hW]
      refine nt_one ?_ (by omega) (by omega)
      rw [World.cell?_alloc_at _ _ _ _ (by simp)]; rfl
  rw [hW]
  refine (sameRat_any _ _ (rat true 6 4) (rat true 6 4) 1 W (hv.below hbW) hlit (sz_of_small (by omega) (by omega)) (by omega)).mono ?_
  rintro e w2 ⟨b, rfl, hb, hb2⟩
  obtain rfl : b = true := hb.2 rfl
  have HF := Lib.hid (below_next' hb1 (below_next hbW hb2))
  clear hv hb1 hbW hlit e1 e2 hb hb2 HV hW
  go_wp2
  go_ret
  exact ⟨rfl, HF.out⟩

end Go.Proofs.Ytdpiclmjdcjajaa
