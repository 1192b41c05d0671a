/-
  The walks of read and Canonical: at most 50000 limbs.
-/
import Derived.Test.YtdpiclmjdcjajaaR3
import Derived.Deep.DeepCutAuto
namespace Go.Proofs.Ytdpiclmjdcjajaa
open Go.RowKit Num

/-- A fraction in memory: its denominator is not 0, and it is the number. -/
def ReadP (q : Rat) (k : Nat) (w : World) (e : Ending) (w' : World) : Prop :=
  ∃ neg an ln cn ad ld cd n d, e = .returned (.agg #[.bool neg, .slice an ln cn, .slice ad ld cd]) ∧ Nt w' (.slice an ln cn) n ∧ Nt w' (.slice ad ld cd) d ∧ 0 < d ∧ n < pw k ∧ d < pw k ∧ rat neg n d = q ∧ Below w.heap.size w w'

/-- The fraction behind the two calls. -/
def ReadR (w : World) (neg : Bool) (a b : Nat) (s3 : Value) (wx : World) : Prop :=
  ∃ h p1 q1 s1 p2 q2 s2, s3 = .pointer (some ⟨h, 0, none⟩) ∧ BoxV wx w.heap.size h 60 [.bool neg, .slice p1 q1 s1, .slice p2 q2 s2] ∧ Nt wx (.slice p1 q1 s1) a ∧ Nt wx (.slice p2 q2 s2) b ∧
    BoxV wx w.heap.size (w.heap.size + 1) 60 [.bool false, .slice none 0 0, .slice none 0 0] ∧ Below w.heap.size w wx ∧ h ≠ w.heap.size + 1

theorem readR_new {w w2 : World} {neg : Bool} {a b : Nat} {p1 p2 : Option Addr} {q1 s1 q2 s2 : Nat} (hb : Below w.heap.size w w2) (h1 : Nt w2 (.slice p1 q1 s1) a) (h2 : Nt w2 (.slice p2 q2 s2) b)
    (hr : BoxV w2 w.heap.size (w.heap.size + 1) 60 [.bool false, .slice none 0 0, .slice none 0 0]) :
    ReadR w neg a b (.pointer (some ⟨w2.heap.size, 0, none⟩)) (w2.alloc (.cells #[.bool neg, .slice p1 q1 s1, .slice p2 q2 s2] 60)) :=
  ⟨_, _, _, _, _, _, _, rfl, BoxV.new w2 w.heap.size 60 hb.size [.bool neg, .slice p1 q1 s1, .slice p2 q2 s2], h1.below (below_alloc1 _ _), h2.below (below_alloc1 _ _), hr.alloc _, hb.alloc hb.size _, by have := hr.block; omega⟩

theorem readR_set {w w2 : World} {neg : Bool} {a b g : Nat} {p1 p2 : Option Addr} {q1 s1 q2 s2 : Nat} (hb : Below w.heap.size w w2) (h1 : Nt w2 (.slice p1 q1 s1) a) (h2 : Nt w2 (.slice p2 q2 s2) b)
    (hr : BoxV w2 w.heap.size (w.heap.size + 1) 60 [.bool false, .slice none 0 0, .slice none 0 0]) (hz : BoxV w2 w.heap.size g 60 [.bool false, .slice none 0 0, .slice none 0 0]) (hne : g ≠ w.heap.size + 1) :
    ReadR w neg a b (.pointer (some ⟨g, 0, none⟩)) (((w2.setCell ⟨g, 0, none⟩ (.bool neg)).setCell ⟨g, 1, none⟩ (.slice p1 q1 s1)).setCell ⟨g, 2, none⟩ (.slice p2 q2 s2)) :=
  ⟨_, _, _, _, _, _, _, rfl, hz.store3 _ _ _, h1.other hz noLimb_nil3 (grown_set3 _ _ _ _ _), h2.other hz noLimb_nil3 (grown_set3 _ _ _ _ _), hr.kept (grown_set3 _ _ _ _ _) (by simpa using fun e => hne e.symm), below_set3 hb hz.block.1 _ _ _, hne⟩

theorem below_alloc_next {W0 W : World} {o : Obj} (h : Below W0.heap.size W0 W) : Below W0.heap.size W0 (W.alloc o) := h.alloc h.size o

set_option maxHeartbeats 4000000 in
theorem read_any (neg : Bool) (an ad : Option Addr) (cn cd : Nat) (l1 l2 : List Nat) (k : Nat) (w : World) (h1 : Lim w (.slice an l1.length cn) l1) (h2 : Lim w (.slice ad l2.length cd) l2) (hk1 : l1.length ≤ k) (hk2 : l2.length ≤ k) (hk : k ≤ 50000) :
    Calls Try.prog 108 #[.agg #[.bool neg, .slice an l1.length cn, .slice ad l2.length cd]] w (ReadP (rat neg (val l1) (val l2)) (k + 1) w) := by
  have hv1 : val l1 < pw (k + 1) := by obtain ⟨_, _, _, _, _, h3, _⟩ := h1; exact val_lt_succ h3 hk1
  have hv2 : val l2 < pw (k + 1) := by obtain ⟨_, _, _, _, _, h3, _⟩ := h2; exact val_lt_succ h3 hk2
  obtain ⟨n1, hn1⟩ : ∃ n1, l1.length = n1 := ⟨_, rfl⟩
  obtain ⟨n2, hn2⟩ : ∃ n2, l2.length = n2 := ⟨_, rfl⟩
  have hc1 := fun W (h : Below w.heap.size w W) => normalize_any (.slice an l1.length cn) l1 W (h1.below h) (by omega)
  have hc2 := fun W (h : Below w.heap.size w W) => normalize_any (.slice ad l2.length cd) l2 W (h2.below h) (by omega)
  rw [hn1] at hc1 ⊢
  rw [hn2] at hc2 ⊢
  have HA := Lib.hid (And.intro hc1 (And.intro hc2 (And.intro hv1 hv2)))
  clear h1 h2 hk1 hk2 hc1 hc2 hv1 hv2 hn1 hn2
  go_enter Try.func108, Try.ntmps108
  go_wp2
  obtain ⟨W0, hW0⟩ : ∃ W0, (w.alloc (.cells #[.bool neg, .slice an n1 cn, .slice ad n2 cd] 24)).alloc (.cells #[.bool false, .slice none 0 0, .slice none 0 0] 60) = W0 := ⟨_, rfl⟩
  have hbw : Below w.heap.size w W0 := by rw [← hW0]; exact below_alloc2 _ _ _
  have hbx : BoxV W0 w.heap.size (w.heap.size + 1) 60 [.bool false, .slice none 0 0, .slice none 0 0] := by
    rw [← hW0]
    have := BoxV.new (w.alloc (.cells #[.bool neg, .slice an n1 cn, .slice ad n2 cd] 24)) w.heap.size 60 (by simp) [.bool false, .slice none 0 0, .slice none 0 0]
    simpa using this
  have hby : BoxV W0 w.heap.size w.heap.size 24 [.bool neg, .slice an n1 cn, .slice ad n2 cd] := by
    rw [← hW0]
    exact (BoxV.new w w.heap.size 24 (Nat.le_refl _) [.bool neg, .slice an n1 cn, .slice ad n2 cd]).alloc _
  rw [hW0]
  obtain ⟨⟨k0, k1, k2⟩, f0, f1, f2⟩ := hby.three
  have hz0 : w.heap.size + 1 < W0.heap.size := hbx.block.2
  have hz00 : w.heap.size < W0.heap.size := by omega
  have HX := Lib.hid (And.intro hbw (And.intro hbx hby))
  clear hbw hbx hby hW0
  go_cut [3] (fun s3 wx => ReadR w neg (val l1) (val l2) s3 wx)
  case first =>
   go_region_held3 (fun w' => w'.cell? ⟨w.heap.size, 0, none⟩ = some (.bool neg) ∧ w'.cell? ⟨w.heap.size, 1, none⟩ = some (.slice an n1 cn) ∧ w'.cell? ⟨w.heap.size, 2, none⟩ = some (.slice ad n2 cd) ∧ w'.frozen? ⟨w.heap.size, 0, none⟩ = false ∧ w'.frozen? ⟨w.heap.size, 1, none⟩ = false ∧ w'.frozen? ⟨w.heap.size, 2, none⟩ = false ∧ Below W0.heap.size W0 w')
     (first | exact keep3 HX.out.2.2 ((Below.refl _ _).drew) | (go_split_ands; exact keep3 HX.out.2.2 (((Below.refl _ _).drew).alloc (Nat.le_refl _) _)) | (go_split_ands; exact keep3 HX.out.2.2 (((Below.refl _ _).alloc (Nat.le_refl _) _).drew)) | (go_split_ands; exact keep3 HX.out.2.2 (below_next (by assumption) hb2)) | (go_split_ands; exact keep3 HX.out.2.2 (below_next (by assumption) hb1)) | (go_split_ands; exact keep3 HX.out.2.2 (below_alloc_next (by assumption))) | (go_split_ands; exact keep3 HX.out.2.2 (below_set3 (by assumption) (by first | exact Nat.le_refl _ | assumption) _ _ _)))
     (first
       | (go_at_call_of 129 (Value.slice an n1 cn); go_split_ands; refine (HA.out.1 _ (below_next' HX.out.1 (by assumption))).mono ?_; rintro e w1 ⟨r1, rfl, hn1, hb1⟩; obtain ⟨p1, q1, s1, rfl⟩ := hn1.shape; have z5 : W0.heap.size ≤ w1.heap.size := Below.size (below_next (by assumption) hb1); obtain ⟨bc1, bf1⟩ := bcell hb1; try (have z3 : W0.heap.size < w1.heap.size := (by have hh := hb1.size; simp at hh; omega)))
       | (go_at_call_of 129 (Value.slice ad n2 cd); go_split_ands; refine (HA.out.2.1 _ (below_next' HX.out.1 (by assumption))).mono ?_; rintro e w2 ⟨r2, rfl, hn2, hb2⟩; obtain ⟨p2, q2, s2, rfl⟩ := hn2.shape; have hq2 : Below W0.heap.size W0 w2 := below_next (by assumption) hb2; obtain ⟨bc2, bf2⟩ := bcell hb2))
   all_goals
     go_wp2_with fail
     go_meet
   case rel => exact readR_new (below_next' HX.out.1 hq2) (hn1.below hb2) hn2 (HX.out.2.1.below hq2)
   case rel => exact readR_set (below_next' HX.out.1 hq2) (hn1.below (below_next (below_alloc1 _ _) hb2)) hn2 (HX.out.2.1.below hq2) ((BoxV.new w1 w.heap.size 60 (Nat.le_trans HX.out.1.size z5) [.bool false, .slice none 0 0, .slice none 0 0]).below hb2) (by omega)
   case rel => exact readR_set (below_next' HX.out.1 hq2) (hn1.below hb2) hn2 (HX.out.2.1.below hq2) ((((BoxV.new W0 w.heap.size 60 HX.out.1.size [.bool false, .slice none 0 0, .slice none 0 0]).below (below_drewN (Below.refl _ _) 1)).below hb1).below hb2) (by omega)
  case rest =>
    obtain ⟨h, p1, q1, s1, p2, q2, s2, rfl, hbh, hn1, hn2, hbr, hbel, hne⟩ := hcut
    obtain ⟨⟨a0, a1, a2⟩, _⟩ := hbh.three
    obtain ⟨⟨r0, r1, r2⟩, g0, g1, g2⟩ := hbr.three
    have hlen : (q2 = 0 ↔ val l2 = 0) := by
      obtain ⟨l, ⟨a', c', e, _⟩, c, hv⟩ := hn2
      simp only [Value.slice.injEq] at e
      rw [e.2.1, ← hv]; exact c.zero.symm
    have hlt := hbr.block.2
    have HE := Lib.hid (And.intro hbh (And.intro hn1 (And.intro hn2 (And.intro hbr (And.intro hbel (And.intro hne hlen))))))
    clear hbh hn1 hn2 hbr hbel hne hlen HX k0 k1 k2 f0 f1 f2 hz0 hz00
    by_cases hq : q2 = 0
    · have hb0 : ((q2 : Int) == 0) = true := by simp [hq]
      have HQ := Lib.hid hq
      clear hq
      go_wp2
      obtain ⟨hbh, hn1, hn2, hbr, hbel, hne, hlen⟩ := HE.out
      have hb3 := below_set3 hbel (g := w.heap.size + 1) (by simp) (.bool false) (.slice none 0 0) (.slice (some ⟨wc.heap.size, 0, none⟩) 1 1)
      have h1pw : 1 < pw (k + 1) := by have := pw_pos k; rw [pw_succ]; omega
      obtain ⟨⟨y0, y1, y2⟩, _⟩ := ((hbr.store3 (.bool false) (.slice none 0 0) (.slice (some ⟨wc.heap.size, 0, none⟩) 1 1)).alloc (.cells #[.int .u32 1] 58)).three
      refine bodyPost_ret (v := .agg #[.bool false, .slice none 0 0, .slice (some ⟨wc.heap.size, 0, none⟩) 1 1]) (by simp [results, Try.results108, go_sem, y0, y1, y2]) rfl ⟨false, none, 0, 0, _, 1, 1, 0, 1, rfl, Nt.nil _, lim_one ?_, by omega, by omega, h1pw, ?_, hb3.alloc hb3.size _⟩
      · rw [World.cell?_alloc_at _ _ _ _ (by simp)]; rfl
      · rw [hlen.1 HQ.out, rat_zero_den, rat_zero_num]
    · have hb0 : ((q2 : Int) == 0) = false := by rw [beq_eq_false_iff_ne]; omega
      go_wp2
      obtain ⟨hbh, hn1, hn2, hbr, hbel, hne, hlen⟩ := HE.out
      refine bodyPost_ret (v := .agg #[.bool neg, .slice p1 q1 s1, .slice p2 q2 s2]) (by simp [results, Try.results108, go_sem, r0, r1, r2]) rfl ⟨neg, p1, q1, s1, p2, q2, s2, val l1, val l2, rfl, hn1.other hbr noLimb_nil3 (grown_set3 _ _ _ _ _), hn2.other hbr noLimb_nil3 (grown_set3 _ _ _ _ _), by have := mt hlen.2 hq; omega, HA.out.2.2.1, HA.out.2.2.2, rfl, below_set3 hbel (by simp) _ _ _⟩

set_option maxHeartbeats 4000000 in
theorem Canonical_any (v : Value) (k : Nat) (q : Rat) (w : World) (h : RatA w v k q) (hk : k ≤ 50000) : Calls Try.prog 64 #[v] w (RatP q w) := by
  obtain ⟨neg, an, cn, ad, cd, l1, l2, rfl, h1, h2, hk1, hk2, rfl⟩ := h
  obtain ⟨n1, hn1⟩ : ∃ n1, l1.length = n1 := ⟨_, rfl⟩
  obtain ⟨n2, hn2⟩ : ∃ n2, l2.length = n2 := ⟨_, rfl⟩
  have hs := fun W (hW : Below w.heap.size w W) => readSmall_any neg an ad cn cd l1 l2 W (h1.below hW) (h2.below hW)
  have hr := fun W (hW : Below w.heap.size w W) => read_any neg an ad cn cd l1 l2 k W (h1.below hW) (h2.below hW) hk1 hk2 hk
  rw [hn1, hn2] at hs hr ⊢
  have HA := Lib.hid (And.intro hs hr)
  clear hs hr h1 h2 hk1 hk2 hn1 hn2
  go_enter Try.func64, Try.ntmps64
  go_wp2_with fail
  refine (HA.out.1 _ (below_alloc2 _ _ _)).mono ?_
  rintro e w1 ⟨a, b, ok, rfl, hok, hb1⟩
  obtain ⟨W0, hW0⟩ : ∃ W0, (w.alloc (.cells #[.bool neg, .slice an n1 cn, .slice ad n2 cd] 24)).alloc (.cells #[.bool false, .slice none 0 0, .slice none 0 0] 24) = W0 := ⟨_, rfl⟩
  have hbw : Below w.heap.size w W0 := by rw [← hW0]; exact below_alloc2 _ _ _
  have hbx : BoxV W0 w.heap.size (w.heap.size + 1) 24 [.bool false, .slice none 0 0, .slice none 0 0] := by
    rw [← hW0]
    have := BoxV.new (w.alloc (.cells #[.bool neg, .slice an n1 cn, .slice ad n2 cd] 24)) w.heap.size 24 (by simp) [.bool false, .slice none 0 0, .slice none 0 0]
    simpa using this
  have hby : BoxV W0 w.heap.size w.heap.size 24 [.bool neg, .slice an n1 cn, .slice ad n2 cd] := by
    rw [← hW0]
    exact (BoxV.new w w.heap.size 24 (Nat.le_refl _) [.bool neg, .slice an n1 cn, .slice ad n2 cd]).alloc _
  rw [hW0] at hb1
  obtain ⟨⟨k0, k1, k2⟩, f0, f1, f2⟩ := (hby.below hb1).three
  obtain ⟨⟨r0, r1, r2⟩, g0, g1, g2⟩ := (hbx.below hb1).three
  have hz1 : w.heap.size + 1 < w1.heap.size := (hbx.below hb1).block.2
  have hz2 : w.heap.size < w1.heap.size := by omega
  have HX := Lib.hid (And.intro hbw (And.intro hbx (And.intro hby (And.intro hok hb1))))
  clear hbw hbx hby hb1 hok hW0
  cases ok
  · go_wp2_with fail
    have hA1 : Below W0.heap.size W0 (w1.alloc (.cells #[.int .i64 a, .int .i64 b] 104)) := below_alloc_next HX.out.2.2.2.2
    refine (HA.out.2 _ (below_next' HX.out.1 hA1)).mono ?_
    rintro e w2 ⟨neg', ra, rn, rc, sa, sn, sc, n, d, rfl, hn, hd, hd0, hnk, hdk, hq, hb2⟩
    have HR := Lib.hid (And.intro hn (And.intro hd (And.intro hd0 (And.intro hnk (And.intro hdk (And.intro hq (And.intro hb2 hA1)))))))
    clear hn hd hd0 hnk hdk hq hb2 hA1
    go_wp2_with fail
    obtain ⟨hn, hd, hd0, hnk, hdk, hq, hb2, hA1⟩ := HR.out
    refine (canonical_any neg' ra sa rn rc sn sc n d (k + 1) w2 hn hd hd0 hnk hdk (by omega)).mono ?_
    rintro e w3 ⟨v, rfl, hv, hb3⟩
    rw [hq] at hv
    have hbb := below_next (below_next hA1 hb2) hb3
    clear hn hd hd0 hnk hdk hq hb2 hA1 hb3
    obtain ⟨zn, zl, zc, dn, dl, dc, rfl, hzn, hzd⟩ := hv
    obtain ⟨⟨y0, y1, y2⟩, i0, i1, i2⟩ := (HX.out.2.1.below hbb).three
    have HF := Lib.hid (And.intro hzn hzd)
    have HBH := Lib.hid (hbb)
    clear hzn hzd hbb
    go_wp2
    obtain ⟨hzn, hzd⟩ := HF.out
    obtain ⟨hbw, hbx, hby, hok, hb1⟩ := HX.out
    refine bodyPost_ret (v := .agg #[.bool (decide ((rat neg (val l1) (val l2)).num < 0)), .slice zn zl zc, .slice dn dl dc]) (by simp [results, Try.results64, go_sem, y0, y1, y2]) rfl ⟨_, rfl, ?_, below_set3 (below_next' hbw HBH.out) (by simp) _ _ _⟩
    exact RatC.other (⟨zn, zl, zc, dn, dl, dc, rfl, hzn, hzd⟩ : RatC w3 _ (rat neg (val l1) (val l2))) (hbx.below HBH.out) noLimb_nil3 (grown_set3 _ _ _ _ _)
  · go_wp2_with fail
    have hA1 : Below W0.heap.size W0 (w1.alloc (.cells #[.int .i64 a, .int .i64 b] 104)) := below_alloc_next HX.out.2.2.2.2
    obtain ⟨hq, j1, j2, j3, j4⟩ := HX.out.2.2.2.1 (by first | exact trivial | rfl)
    refine (small_any a b _ (by omega) (by omega) (by omega) (by omega)).mono ?_
    rintro e w3 ⟨v, rfl, hv, hb3⟩
    rw [hq] at hv
    have hbb := below_next hA1 hb3
    clear hq j1 j2 j3 j4 hA1 hb3
    obtain ⟨zn, zl, zc, dn, dl, dc, rfl, hzn, hzd⟩ := hv
    obtain ⟨⟨y0, y1, y2⟩, i0, i1, i2⟩ := (HX.out.2.1.below hbb).three
    have HF := Lib.hid (And.intro hzn hzd)
    have HBH := Lib.hid (hbb)
    clear hzn hzd hbb
    go_wp2
    obtain ⟨hzn, hzd⟩ := HF.out
    obtain ⟨hbw, hbx, hby, hok, hb1⟩ := HX.out
    refine bodyPost_ret (v := .agg #[.bool (decide ((rat neg (val l1) (val l2)).num < 0)), .slice zn zl zc, .slice dn dl dc]) (by simp [results, Try.results64, go_sem, y0, y1, y2]) rfl ⟨_, rfl, ?_, below_set3 (below_next' hbw HBH.out) (by simp) _ _ _⟩
    exact RatC.other (⟨zn, zl, zc, dn, dl, dc, rfl, hzn, hzd⟩ : RatC w3 _ (rat neg (val l1) (val l2))) (hbx.below HBH.out) noLimb_nil3 (grown_set3 _ _ _ _ _)

end Go.Proofs.Ytdpiclmjdcjajaa
