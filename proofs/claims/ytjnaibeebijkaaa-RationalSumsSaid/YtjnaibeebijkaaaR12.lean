/-
  The walks of Abs, Integral, Floor and Ceil.
-/
import Derived.Test.YtjnaibeebijkaaaFlow3
namespace Go.Proofs.Ytjnaibeebijkaaa
open Go.RowKit Num

theorem den_one_iff {neg : Bool} {n d : Nat} (hd : 0 < d) : (rat neg n d).den = 1 ↔ n % d = 0 := by
  rw [rat_den neg n d hd]
  have hg : 0 < Nat.gcd n d := Nat.gcd_pos_of_pos_right _ hd
  constructor
  · intro h
    have h1 : Nat.gcd n d = d := by
      have h2 := Nat.div_mul_cancel (Nat.gcd_dvd_right n d)
      rw [h, Nat.one_mul] at h2
      exact h2
    exact Nat.mod_eq_zero_of_dvd (h1 ▸ Nat.gcd_dvd_left n d)
  · intro h
    have h1 : Nat.gcd n d = d := Nat.gcd_eq_right (Nat.dvd_of_mod_eq_zero h)
    rw [h1]
    exact Nat.div_self hd

theorem floor_mk (z : Int) {d : Nat} (hd : 0 < d) : (mkRat z d).floor = z / (d : Int) := by
  obtain ⟨m, hm, h1, h2⟩ := mk_facts z d (by omega)
  rw [Rat.floor_def]
  generalize mkRat z d = p at *
  rw [h1, h2, Int.natCast_mul]
  rw [Int.mul_ediv_mul_of_pos_left _ _ (by omega)]

theorem neg_div (n d : Nat) (hd : 0 < d) : -(n : Int) / (d : Int) = if n % d = 0 then -((n / d : Nat) : Int) else -((n / d + 1 : Nat) : Int) := by
  have h := Nat.div_add_mod n d
  have hr := Nat.mod_lt n hd
  generalize n / d = k at *
  generalize n % d = r at *
  have e : -(n : Int) = (d : Int) * (-(k : Int)) + (-(r : Int)) := by
    rw [← h, Int.natCast_add, Int.natCast_mul, Int.mul_neg]
    omega
  split
  · rename_i hr0
    subst hr0
    rw [e, Int.natCast_zero, Int.neg_zero, Int.add_zero, Int.mul_ediv_cancel_left _ (by omega)]
  · have e2 : -(n : Int) = (d - r : Int) + (d : Int) * (-((k + 1 : Nat) : Int)) := by
      rw [e, Int.natCast_add, Int.neg_add, Int.mul_add]
      omega
    rw [e2, Int.add_mul_ediv_left _ _ (by omega), Int.ediv_eq_zero_of_lt (by omega) (by omega)]
    omega

theorem floor_rat (neg : Bool) (n d : Nat) (hd : 0 < d) : ((rat neg n d).floor : Rat) = rat neg (if neg = true ∧ n % d ≠ 0 then n / d + 1 else n / d) 1 := by
  unfold rat
  rw [floor_mk _ hd]
  cases neg
  · simp only [Bool.false_eq_true, if_false, false_and]
    rw [← Int.natCast_ediv]
    exact (Rat.mkRat_one _).symm
  · simp only [if_true, true_and]
    rw [neg_div n d hd]
    by_cases h : n % d = 0
    · rw [if_pos h, if_neg (by omega)]
      exact (Rat.mkRat_one _).symm
    · rw [if_neg h, if_pos h]
      exact (Rat.mkRat_one _).symm

theorem rat_nonneg (n d : Nat) : 0 ≤ rat false n d := by
  rw [← Rat.num_nonneg]
  unfold rat
  rw [Rat.num_mkRat]
  split
  · exact Int.le_refl _
  · exact Int.ediv_nonneg (by simp) (by simp)
theorem abs_rat (neg : Bool) (n d : Nat) : rat false n d = (rat neg n d).abs := by
  cases neg
  · exact (Rat.abs_of_nonneg (rat_nonneg n d)).symm
  · have e : rat true n d = - rat false n d := rat_not false n d
    rw [e, Rat.abs_neg]
    exact (Rat.abs_of_nonneg (rat_nonneg n d)).symm
theorem RatV.abs {w W : World} {neg : Bool} {an ad : Option Addr} {n cn m cd k : Nat} {q : Rat} (h : RatV w neg an n cn ad m cd k q) (hW : Below w.heap.size w W) : RatA W (.agg #[.bool false, .slice an n cn, .slice ad m cd]) k q.abs := by
  obtain ⟨l1, l2, e1, e2, h1, h2, k1, k2, e⟩ := h.below hW
  refine RatV.a ⟨l1, l2, e1, e2, h1, h2, k1, k2, ?_⟩
  rw [e, abs_rat neg]

def IntegralP (q : Rat) (w : World) (e : Ending) (w' : World) : Prop := e = .returned (.bool (decide (q.den = 1))) ∧ Below w.heap.size w w'

theorem nt_len {w : World} {a : Option Addr} {n c x : Nat} (h : Nt w (.slice a n c) x) : n = 0 ↔ x = 0 := by
  obtain ⟨l, ⟨a', c', e, _⟩, c, hv⟩ := h
  simp only [Value.slice.injEq] at e
  rw [e.2.1, ← hv]; exact c.zero.symm

set_option maxHeartbeats 4000000 in
theorem integral_any (neg : Bool) (an ad : Option Addr) (n1 c1 n2 c2 k : Nat) (p : Rat) (w : World) (hp : RatV w neg an n1 c1 ad n2 c2 k p) (hk : k ≤ 50000) :
    Calls Try.prog 25 #[.agg #[.bool neg, .slice an n1 c1, .slice ad n2 c2]] w (IntegralP p w) := by
  have hr := readV (w := w.alloc (.cells #[.bool neg, .slice an n1 c1, .slice ad n2 c2] 24)) (hp.below (below_alloc1 _ _)) hk
  have HR := Lib.hid hr
  clear hp hr
  go_enter Try.func25, Try.ntmps25
  go_wp2_with fail
  refine HR.out.mono ?_
  rintro e w1 ⟨ng, fa, fl, fc, ga, gl, gc, n, d, rfl, hn, hd, hd0, hnk, hdk, hq, hb1⟩
  have H1 := Lib.hid (And.intro hn (And.intro hd (And.intro hd0 (And.intro hnk (And.intro hdk (And.intro hq (below_next (below_alloc1 _ _) hb1)))))))
  clear hn hd hd0 hnk hdk hq hb1
  go_wp2_with fail
  have hb2 := below_alloc1 w1 (.cells #[.bool ng, .slice fa fl fc, .slice ga gl gc] 51)
  refine (divide_any _ _ n d (k + 1) _ (H1.out.1.below hb2) (H1.out.2.1.below hb2) H1.out.2.2.1 H1.out.2.2.2.1 (by omega)).mono ?_
  rintro e w2 ⟨q1, r1, rfl, hq1, hr1, hb3⟩
  obtain ⟨ra, rl, rc, rfl⟩ := hr1.shape
  have H2 := Lib.hid (And.intro hr1 (below_next H1.out.2.2.2.2.2.2 (below_next hb2 hb3)))
  clear hq1 hr1 hb2 hb3
  go_wp2
  go_ret
  have h3 := nt_len H2.out.1
  have h4 := den_one_iff (neg := ng) (n := n) H1.out.2.2.1
  rw [H1.out.2.2.2.2.2.1] at h4
  have h5 : ((rl : Int) == 0) = decide (p.den = 1) := by
    rw [Bool.eq_iff_iff]
    simp only [beq_iff_eq, decide_eq_true_eq]
    rw [h4, ← h3]
    omega
  exact ⟨by rw [← h5]; rfl, H2.out.2⟩

set_option maxHeartbeats 4000000 in
theorem abs_any (na : Bool) (an ad : Option Addr) (n1 c1 n2 c2 k : Nat) (p : Rat) (w : World) (hp : RatV w na an n1 c1 ad n2 c2 k p) (hk : k ≤ 50000) :
    Calls Try.prog 33 #[.agg #[.bool na, .slice an n1 c1, .slice ad n2 c2]] w (RatP p.abs w) := by
  have hc := fun W (hW : Below w.heap.size w W) => Canonical_any _ k p.abs W (RatV.abs hp hW) hk
  have HA := Lib.hid hc
  clear hp hc
  go_enter Try.func33, Try.ntmps33
  go_wp2_with fail
  have hbw := below_alloc2 w (.cells #[.bool na, .slice an n1 c1, .slice ad n2 c2] 24) (.cells #[.bool false, .slice none 0 0, .slice none 0 0] 24)
  obtain ⟨hb0, hb1⟩ := alloc2_box w [.bool na, .slice an n1 c1, .slice ad n2 c2] [.bool false, .slice none 0 0, .slice none 0 0] 24
  obtain ⟨W0, hW0⟩ : ∃ W0, (w.alloc (.cells #[.bool na, .slice an n1 c1, .slice ad n2 c2] 24)).alloc (.cells #[.bool false, .slice none 0 0, .slice none 0 0] 24) = W0 := ⟨_, rfl⟩
  rw [hW0] at hbw ⊢
  simp only [hW0] at hb0 hb1
  clear hW0 hb0
  have HX := Lib.hid (And.intro hbw hb1)
  clear hbw hb1
  refine (HA.out _ HX.out.1).mono ?_
  rintro e w3 ⟨v, rfl, hv, hb3⟩
  have hbb := below_next' HX.out.1 hb3
  have hB5 := HX.out.2.below hb3
  clear hb3
  obtain ⟨yn, yl, yc, dn, dl, dc, rfl, hzn, hzd⟩ := hv
  obtain ⟨⟨y0, y1, y2⟩, i0, i1, i2⟩ := hB5.three
  have HF := Lib.hid (And.intro hzn (And.intro hzd (And.intro hbb hB5)))
  clear hzn hzd hbb hB5
  go_wp2
  obtain ⟨hzn, hzd, hbw3, hB5⟩ := HF.out
  refine bodyPost_ret (v := .agg #[.bool (decide (p.abs.num < 0)), .slice yn yl yc, .slice dn dl dc]) (by simp [results, Try.results33, go_sem, y0, y1, y2]) rfl ⟨_, rfl, ?_, below_set3 hbw3 (by omega) _ _ _⟩
  exact RatC.other (⟨yn, yl, yc, dn, dl, dc, rfl, hzn, hzd⟩ : RatC w3 _ p.abs) hB5 noLimb_nil3 (grown_set3 _ _ _ _ _)

/-- The last part of Floor: a whole number with a sign. -/
theorem whole_c {w : World} {neg : Bool} {qa : Option Addr} {ql qc m k g : Nat} (h : Nt w (.slice qa ql qc) m) (h1 : w.cell? ⟨g, 0, none⟩ = some (.int .u32 1)) (hm : m < pw k) (hk : k ≤ 100000) (hk1 : 1 ≤ k) :
    Calls Try.prog 64 #[.agg #[.bool neg, .slice qa ql qc, .slice (some ⟨g, 0, none⟩) 1 1]] w (RatP (rat neg m 1) w) := by
  have h1k : 1 < pw k := by have := pw_le hk1; have e : pw 1 = 1000000000 := rfl; omega
  exact canonical_any neg qa _ ql qc 1 1 m 1 k w h (lim_one h1) (by omega) hm h1k hk

set_option maxHeartbeats 4000000 in
theorem floor_any (neg : Bool) (an ad : Option Addr) (n1 c1 n2 c2 k : Nat) (p : Rat) (w : World) (hp : RatV w neg an n1 c1 ad n2 c2 k p) (hk : k ≤ 50000) :
    Calls Try.prog 43 #[.agg #[.bool neg, .slice an n1 c1, .slice ad n2 c2]] w (RatP (p.floor : Rat) w) := by
  have hb0 := below_alloc2 w (.cells #[.bool neg, .slice an n1 c1, .slice ad n2 c2] 24) (.cells #[.bool false, .slice none 0 0, .slice none 0 0] 24)
  have hr := readV (hp.below hb0) hk
  have hbx := (alloc2_box w [.bool neg, .slice an n1 c1, .slice ad n2 c2] [.bool false, .slice none 0 0, .slice none 0 0] 24).2
  have HR := Lib.hid (And.intro hr (And.intro hb0 hbx))
  clear hp hr hb0 hbx
  go_enter Try.func43, Try.ntmps43
  go_wp2_with fail
  refine HR.out.1.mono ?_
  rintro e w1 ⟨ng, fa, fl, fc, ga, gl, gc, n, d, rfl, hn, hd, hd0, hnk, hdk, hq, hb1⟩
  have hbx := HR.out.2.2.below hb1
  have hlt := hbx.block.2
  have H1 := Lib.hid (And.intro hn (And.intro hd (And.intro hd0 (And.intro hnk (And.intro hq (And.intro (below_next' HR.out.2.1 hb1) hbx))))))
  clear hn hd hd0 hnk hdk hq hb1 hbx HR
  go_wp2_with fail
  have hb2 := below_alloc1 w1 (.cells #[.bool ng, .slice fa fl fc, .slice ga gl gc] 51)
  refine (divide_any _ _ n d (k + 1) _ (H1.out.1.below hb2) (H1.out.2.1.below hb2) H1.out.2.2.1 H1.out.2.2.2.1 (by omega)).mono ?_
  rintro e w2 ⟨q1, r1, rfl, hq1, hr1, hb3⟩
  obtain ⟨ra, rl, rc, rfl⟩ := hr1.shape
  obtain ⟨qa, ql, qc, rfl⟩ := hq1.shape
  have hbf := (BoxV.new w1 w1.heap.size 51 (Nat.le_refl _) [.bool ng, .slice fa fl fc, .slice ga gl gc]).below hb3
  have hb4 := below_next H1.out.2.2.2.2.2.1 (below_next hb2 hb3)
  have hbx := H1.out.2.2.2.2.2.2.below (below_next hb2 hb3)
  have h3 := nt_len hr1
  have hfl := floor_rat ng n d H1.out.2.2.1
  rw [H1.out.2.2.2.2.1] at hfl
  have hqk : n / d < pw (k + 1) := Nat.lt_of_le_of_lt (Nat.div_le_self _ _) H1.out.2.2.2.1
  obtain ⟨⟨y0, y1, y2⟩, _⟩ := hbf.three
  obtain ⟨t1, t2⟩ := hbx.block
  have hlt2 := hbf.block.2
  have H2 := Lib.hid (And.intro hq1 (And.intro hb4 (And.intro hbx (And.intro h3 (And.intro hfl (And.intro hqk hbf))))))
  clear hq1 hr1 hb2 hb3 hbf hb4 hbx h3 hfl hqk H1 t1
  by_cases hc : ng = true ∧ rl ≠ 0
  · obtain ⟨rfl, hrl⟩ := hc
    have hpos : 0 < rl := by omega
    have hmod : n % d ≠ 0 := fun e => hrl (H2.out.2.2.2.1.2 e)
    have hf : (p.floor : Rat) = rat true (n / d + 1) 1 := by rw [H2.out.2.2.2.2.1, if_pos ⟨rfl, hmod⟩]
    have HC := Lib.hid hf
    clear hrl hmod hf
    go_wp2_with fail
    have hone : Nt (w2.alloc (.cells #[.int .u32 1] 47)) (.slice (some ⟨w2.heap.size, 0, none⟩) 1 1) 1 := lim_one (by rw [World.cell?_alloc_at _ _ _ _ rfl]; rfl)
    have hb5 := below_alloc1 w2 (.cells #[.int .u32 1] 47)
    have h1k : 1 < pw (k + 1) := by have := pw_le (show 1 ≤ k + 1 by omega); have e : pw 1 = 1000000000 := rfl; omega
    refine ((H2.out.1.below hb5).add hone H2.out.2.2.2.2.2.1 h1k (by omega)).mono ?_
    rintro e w3 ⟨q2, rfl, hq2, hb6⟩
    obtain ⟨q2a, q2l, q2c, rfl⟩ := hq2.shape
    have hb7 := below_next hb5 hb6
    obtain ⟨⟨y0', y1', y2'⟩, _⟩ := (H2.out.2.2.2.2.2.2.below hb7).three
    have hbx := H2.out.2.2.1.below hb7
    have t3 := hbx.block.2
    have H3 := Lib.hid (And.intro hq2 (And.intro hb7 hbx))
    clear hone hb5 h1k hq2 hb6 hb7 hbx y0 y1 y2 t2
    go_wp2_with fail
    have hb8 := below_alloc1 w3 (.cells #[.int .u32 1] 47)
    have hqk : n / d + 1 < pw (k + 2) := by
      have := H2.out.2.2.2.2.2.1
      have e : pw (k + 2) = 1000000000 * pw (k + 1) := pw_succ (k + 1)
      have e1 : pw (k + 1) = 1000000000 * pw k := pw_succ k
      have e2 := pw_pos k
      omega
    refine (whole_c (neg := true) (H3.out.1.below hb8) (g := w3.heap.size) (by rw [World.cell?_alloc_at _ _ _ _ rfl]; rfl) hqk (by omega) (by omega)).mono ?_
    rw [← HC.out]
    rintro e w4 ⟨v, rfl, hv, hb9⟩
    have hb10 := below_next H3.out.2.1 (below_next hb8 hb9)
    have hB5 := H3.out.2.2.below (below_next hb8 hb9)
    obtain ⟨yn, yl, yc, dn, dl, dc, rfl, hzn, hzd⟩ := hv
    obtain ⟨⟨x0, x1, x2⟩, i0, i1, i2⟩ := hB5.three
    have HF := Lib.hid (And.intro hzn (And.intro hzd (And.intro (below_next' H2.out.2.1 hb10) hB5)))
    clear hzn hzd hB5 hb10 hb9 hb8 hqk t3
    go_wp2
    obtain ⟨hzn, hzd, hbw3, hB5⟩ := HF.out
    refine bodyPost_ret (v := .agg #[.bool (decide ((p.floor : Rat).num < 0)), .slice yn yl yc, .slice dn dl dc]) (by simp [results, Try.results43, go_sem, x0, x1, x2]) rfl ⟨_, rfl, ?_, below_set3 hbw3 (by omega) _ _ _⟩
    exact RatC.other (⟨yn, yl, yc, dn, dl, dc, rfl, hzn, hzd⟩ : RatC w4 _ (p.floor : Rat)) hB5 noLimb_nil3 (grown_set3 _ _ _ _ _)
  · have hf : (p.floor : Rat) = rat ng (n / d) 1 := by
      rw [H2.out.2.2.2.2.1, if_neg]
      intro h
      exact hc ⟨h.1, fun e => h.2 (H2.out.2.2.2.1.1 e)⟩
    have HC := Lib.hid hf
    have hcase : ng = false ∨ (ng = true ∧ rl = 0) := by
      cases ng
      · exact .inl rfl
      · right
        refine ⟨rfl, ?_⟩
        rcases Nat.eq_zero_or_pos rl with h | h
        · exact h
        · exact absurd ⟨rfl, by omega⟩ hc
    clear hf hc
    rcases hcase with rfl | ⟨rfl, rfl⟩
    all_goals
      go_wp2_with fail
      have hb8 := below_alloc1 w2 (.cells #[.int .u32 1] 47)
      refine (whole_c (H2.out.1.below hb8) (g := w2.heap.size) (by rw [World.cell?_alloc_at _ _ _ _ rfl]; rfl) H2.out.2.2.2.2.2.1 (by omega) (by omega)).mono ?_
      rw [← HC.out]
      rintro e w4 ⟨v, rfl, hv, hb9⟩
      have hb10 := below_next hb8 hb9
      have hB5 := H2.out.2.2.1.below hb10
      obtain ⟨yn, yl, yc, dn, dl, dc, rfl, hzn, hzd⟩ := hv
      obtain ⟨⟨x0, x1, x2⟩, i0, i1, i2⟩ := hB5.three
      have HF := Lib.hid (And.intro hzn (And.intro hzd (And.intro (below_next' H2.out.2.1 hb10) hB5)))
      clear hzn hzd hB5 hb10 hb9 hb8 y0 y1 y2
      go_wp2
      obtain ⟨hzn, hzd, hbw3, hB5⟩ := HF.out
      refine bodyPost_ret (v := .agg #[.bool (decide ((p.floor : Rat).num < 0)), .slice yn yl yc, .slice dn dl dc]) (by simp [results, Try.results43, go_sem, x0, x1, x2]) rfl ⟨_, rfl, ?_, below_set3 hbw3 (by omega) _ _ _⟩
      exact RatC.other (⟨yn, yl, yc, dn, dl, dc, rfl, hzn, hzd⟩ : RatC w4 _ (p.floor : Rat)) hB5 noLimb_nil3 (grown_set3 _ _ _ _ _)

/-- The least whole number from q on. -/
def ceilQ (q : Rat) : Rat := -(((-q).floor : Int) : Rat)

theorem sz_floor {q : Rat} {k : Nat} (h : Sz q k) : Sz (q.floor : Rat) (k + 1) := by
  have hk := sz_pos h
  have h1 : 1 < pw k := by have := pw_le hk; have e : pw 1 = 1000000000 := rfl; omega
  have hs := pw_succ k
  have hq := rat_self q
  have hf := floor_rat (decide (q.num < 0)) q.num.natAbs q.den q.den_pos
  rw [hq] at hf
  rw [hf]
  refine sz_rat ?_ (by omega) (by omega)
  have hd := Nat.div_le_self q.num.natAbs q.den
  have hn := h.1
  split <;> omega

theorem floor_a {w : World} {x : Value} {k : Nat} {p : Rat} (hx : RatA w x k p) (hk : k ≤ 50000) : Calls Try.prog 43 #[x] w (RatP (p.floor : Rat) w) := by
  obtain ⟨_, _, _, _, _, _, _, rfl, h1⟩ := hx.v
  exact floor_any _ _ _ _ _ _ _ k p w h1 hk
theorem integral_a {w : World} {x : Value} {k : Nat} {p : Rat} (hx : RatA w x k p) (hk : k ≤ 50000) : Calls Try.prog 25 #[x] w (IntegralP p w) := by
  obtain ⟨_, _, _, _, _, _, _, rfl, h1⟩ := hx.v
  exact integral_any _ _ _ _ _ _ _ k p w h1 hk
theorem abs_a {w : World} {x : Value} {k : Nat} {p : Rat} (hx : RatA w x k p) (hk : k ≤ 50000) : Calls Try.prog 33 #[x] w (RatP p.abs w) := by
  obtain ⟨_, _, _, _, _, _, _, rfl, h1⟩ := hx.v
  exact abs_any _ _ _ _ _ _ _ k p w h1 hk

set_option maxHeartbeats 4000000 in
theorem ceil_any (na : Bool) (an ad : Option Addr) (n1 c1 n2 c2 k : Nat) (p : Rat) (w : World) (hp : RatV w na an n1 c1 ad n2 c2 k p) (hk : k ≤ 40000) :
    Calls Try.prog 45 #[.agg #[.bool na, .slice an n1 c1, .slice ad n2 c2]] w (RatP (ceilQ p) w) := by
  have hs : Sz ((-p).floor : Rat) (k + 2) := sz_floor (sz_neg hp.sz)
  have hc := fun W (hW : Below w.heap.size w W) => floor_any (!na) an ad n1 c1 n2 c2 k (-p) W (hp.neg.below hW) (by omega)
  have HA := Lib.hid (And.intro hc hs)
  clear hp hc hs
  go_enter Try.func45, Try.ntmps45
  go_wp2_with fail
  have hbw := below_alloc2 w (.cells #[.bool na, .slice an n1 c1, .slice ad n2 c2] 24) (.cells #[.bool false, .slice none 0 0, .slice none 0 0] 24)
  obtain ⟨hb0, hb1⟩ := alloc2_box w [.bool na, .slice an n1 c1, .slice ad n2 c2] [.bool false, .slice none 0 0, .slice none 0 0] 24
  obtain ⟨W0, hW0⟩ : ∃ W0, (w.alloc (.cells #[.bool na, .slice an n1 c1, .slice ad n2 c2] 24)).alloc (.cells #[.bool false, .slice none 0 0, .slice none 0 0] 24) = W0 := ⟨_, rfl⟩
  rw [hW0] at hbw ⊢
  simp only [hW0] at hb0 hb1
  clear hW0 hb0
  refine (negated_any na an ad n1 c1 n2 c2 W0).mono ?_
  rintro e w1 ⟨rfl, hw1⟩
  have hb := below_next' hbw hw1
  have hb2 := hb1.below hw1
  have HX := Lib.hid (And.intro hb hb2)
  clear hb hb2 hbw hb1 hw1
  go_wp2_with fail
  refine (HA.out.1 _ HX.out.1).mono ?_
  rintro e w2 ⟨v, rfl, hv, hb3⟩
  have H2 := Lib.hid (And.intro hv hb3)
  obtain ⟨a1, a2, a3, a4, a5, a6, rfl, _⟩ := hv
  clear hb3
  go_wp2_with fail
  refine (neg_a (H2.out.1.a HA.out.2) (by omega)).mono ?_
  rintro e w3 ⟨v, rfl, hv, hb3⟩
  have hbb := below_next' HX.out.1 (below_next H2.out.2 hb3)
  have hB5 := HX.out.2.below (below_next H2.out.2 hb3)
  clear hb3
  obtain ⟨yn, yl, yc, dn, dl, dc, rfl, hzn, hzd⟩ := hv
  obtain ⟨⟨y0, y1, y2⟩, i0, i1, i2⟩ := hB5.three
  have HF := Lib.hid (And.intro hzn (And.intro hzd (And.intro hbb hB5)))
  clear hzn hzd hbb hB5
  go_wp2
  obtain ⟨hzn, hzd, hbw3, hB5⟩ := HF.out
  refine bodyPost_ret (v := .agg #[.bool (decide ((ceilQ p).num < 0)), .slice yn yl yc, .slice dn dl dc]) (by simp [results, Try.results45, go_sem, y0, y1, y2, ceilQ]) rfl ⟨_, rfl, ?_, below_set3 hbw3 (by omega) _ _ _⟩
  exact RatC.other (⟨yn, yl, yc, dn, dl, dc, rfl, hzn, hzd⟩ : RatC w3 _ (ceilQ p)) hB5 noLimb_nil3 (grown_set3 _ _ _ _ _)
theorem ceil_a {w : World} {x : Value} {k : Nat} {p : Rat} (hx : RatA w x k p) (hk : k ≤ 40000) : Calls Try.prog 45 #[x] w (RatP (ceilQ p) w) := by
  obtain ⟨_, _, _, _, _, _, _, rfl, h1⟩ := hx.v
  exact ceil_any _ _ _ _ _ _ _ k p w h1 hk
theorem sz_ceil {q : Rat} {k : Nat} (h : Sz q k) : Sz (ceilQ q) (k + 1) := sz_neg (sz_floor (sz_neg h))

section
variable {κ : Tmp → Kd} {G : Nat → Option Tmp} {d t u c : Tmp} {ty : TypeId} {pos : String} {es : Array Edge} {g : Option (Nat × Bool)} {k1 k2 : Nat} {p q : Rat}
theorem fl_floor (hg : GuardYes (Fk κ) G g) (ht : (κ t).isRat k1 p) (hd : κ d = .ratC (k1 + 1) (p.floor : Rat)) (hk : k1 ≤ 40000) :
    FlowStep Try.prog (Fk κ) G ⟨some d, .call ⟨.value (.func 43), #[.tmp t], #[24]⟩, ty, pos, es, g⟩ :=
  fl_call1 (fun a w => c1_43 a _ _ _ _ _ _ w) hg fun w x hx => (floor_a (ht.a hx (Nat.le_refl _)) (by omega)).mono fun e w' ⟨v, he, hv, hb⟩ => ⟨v, he, by rw [hd]; exact ⟨hv, sz_floor (ht.sz hx)⟩, hb⟩
theorem fl_ceil (hg : GuardYes (Fk κ) G g) (ht : (κ t).isRat k1 p) (hd : κ d = .ratC (k1 + 1) (ceilQ p)) (hk : k1 ≤ 40000) :
    FlowStep Try.prog (Fk κ) G ⟨some d, .call ⟨.value (.func 45), #[.tmp t], #[24]⟩, ty, pos, es, g⟩ :=
  fl_call1 (fun a w => c1_45 a _ _ _ _ _ _ w) hg fun w x hx => (ceil_a (ht.a hx (Nat.le_refl _)) hk).mono fun e w' ⟨v, he, hv, hb⟩ => ⟨v, he, by rw [hd]; exact ⟨hv, sz_ceil (ht.sz hx)⟩, hb⟩
theorem fl_integral {b : Bool} (hg : GuardYes (Fk κ) G g) (ht : (κ t).isRat k1 p) (hd : κ d = .val (.bool b)) (hb : p.den = 1 ↔ b = true) (hk : k1 ≤ 40000) :
    FlowStep Try.prog (Fk κ) G ⟨some d, .call ⟨.value (.func 25), #[.tmp t], #[24]⟩, ty, pos, es, g⟩ :=
  fl_call1 (fun a w => c1_25 a _ _ _ _ _ _ w) hg fun w x hx => (integral_a (ht.a hx (Nat.le_refl _)) (by omega)).mono fun e w' ⟨he, hbl⟩ => ⟨_, he, by
    have : decide (p.den = 1) = b := by rw [Bool.eq_iff_iff, decide_eq_true_eq]; exact hb
    rw [hd, this]; rfl, hbl⟩
end

end Go.Proofs.Ytjnaibeebijkaaa
