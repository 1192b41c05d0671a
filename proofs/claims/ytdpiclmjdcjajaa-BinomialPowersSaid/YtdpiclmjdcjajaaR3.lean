/-
  The walks of read and canonical: at most 50000 limbs.
-/
import Derived.Test.YtdpiclmjdcjajaaR2
namespace Go.Proofs.Ytdpiclmjdcjajaa
open Go.RowKit Num

theorem val_lt32 {l : List Nat} (h : ∀ i, nth l i < 4294967296) : val l + 5 ≤ 5 * pw l.length := by
  induction l with
  | nil => simp [val, pw]
  | cons x l ih =>
    have hx : x < 4294967296 := h 0
    have := ih (fun i => h (i + 1))
    simp only [val, List.length_cons, pw_succ]; omega

theorem val_lt_succ {l : List Nat} {k : Nat} (h : ∀ i, nth l i < 4294967296) (hk : l.length ≤ k) : val l < pw (k + 1) := by
  have h1 := val_lt32 h
  have h2 := pw_le hk
  rw [pw_succ]; omega

theorem noLimb_nil3 : NoLimb [.bool false, .slice none 0 0, .slice none 0 0] := noLimb_rat _ _ _ _ _ _ _

set_option maxHeartbeats 4000000 in
theorem canonical_any (neg : Bool) (an ad : Option Addr) (ln cn ld cd n d k : Nat) (w : World) (h1 : Nt w (.slice an ln cn) n) (h2 : Nt w (.slice ad ld cd) d) (hd : 0 < d) (hn : n < pw k) (hdk : d < pw k) (hk : k ≤ 100000) :
    Calls Try.prog 52 #[.agg #[.bool neg, .slice an ln cn, .slice ad ld cd]] w (RatP (rat neg n d) w) := by
  have hlen : (ln = 0 ↔ n = 0) := by
    obtain ⟨l, ⟨a', c', e, _⟩, c, hv⟩ := h1
    simp only [Value.slice.injEq] at e
    rw [e.2.1, ← hv]; exact c.zero.symm
  have hbel2 := fun (o o' : Obj) => below_alloc2 w o o'
  by_cases h0 : n = 0
  · have hl0 := hlen.2 h0
    have HQ : Hid (rat neg n d = 0) := by rw [h0]; exact rat_zero_num _ _
    have hb0 : ((ln : Int) == 0) = true := by simp [hl0]
    clear hlen h0 hl0 h1 h2 hn hdk
    go_enter Try.func52, Try.ntmps52
    go_wp2_with fail
    refine (zero_any _).mono ?_
    rintro e w1 ⟨v, rfl, hv, hb⟩
    obtain ⟨zn, zl, zc, dn, dl, dc, rfl, hzn, hzd⟩ := hv
    have hbx := (BoxV.new (w.alloc (.cells #[.bool neg, .slice an ln cn, .slice ad ld cd] 60)) w.heap.size 24 (by simp) [.bool false, .slice none 0 0, .slice none 0 0]).below hb
    simp only [World.size_alloc] at hbx
    obtain ⟨⟨k0, k1, k2⟩, f0, f1, f2⟩ := hbx.three
    have HB := Lib.hid (And.intro hb (And.intro hbx (And.intro hzn hzd)))
    clear hb hbx hzn hzd
    go_wp2
    obtain ⟨hb, hbx, hzn, hzd⟩ := HB.out
    have hb0 : Below w.heap.size w w1 := (hbel2 _ _).trans (hb.mono (by simp; omega))
    refine bodyPost_ret (v := .agg #[.bool false, .slice zn zl zc, .slice dn dl dc]) (by simp [results, Try.results52, go_sem, k0, k1, k2]) rfl ⟨_, rfl, ?_, below_set3 hb0 (by simp) _ _ _⟩
    rw [HQ.out]
    exact RatC.other (⟨zn, zl, zc, dn, dl, dc, rfl, hzn, hzd⟩ : RatC w1 _ 0) hbx noLimb_nil3 (grown_set3 _ _ _ _ _)
  · have hb0 : ((ln : Int) == 0) = false := by rw [beq_eq_false_iff_ne]; have := mt hlen.1 h0; omega
    have hn0 : 0 < n := by omega
    obtain ⟨G, hG⟩ : ∃ G, Nat.gcd n d = G := ⟨_, rfl⟩
    have hG0 : 0 < G := by rw [← hG]; exact Nat.gcd_pos_of_pos_left _ hn0
    have hgk : G ≤ n := by rw [← hG]; exact Nat.gcd_le_left _ hn0
    have HA := Lib.hid (And.intro h1 (And.intro h2 (And.intro hd (And.intro hn (And.intro hdk (And.intro hG (And.intro hG0 (And.intro hgk hn0))))))))
    clear hlen h0 h1 h2 hd hn hdk hG hG0 hgk hn0
    go_enter Try.func52, Try.ntmps52
    go_wp2_with fail
    obtain ⟨h1, h2, hd, hn, hdk, hG, hG0, hgk, hn0⟩ := HA.out
    obtain ⟨W0, hW0⟩ : ∃ W0, (w.alloc (.cells #[.bool neg, .slice an ln cn, .slice ad ld cd] 60)).alloc (.cells #[.bool false, .slice none 0 0, .slice none 0 0] 24) = W0 := ⟨_, rfl⟩
    have hbw : Below w.heap.size w W0 := by rw [← hW0]; exact hbel2 _ _
    have hbx : BoxV W0 w.heap.size (w.heap.size + 1) 24 [.bool false, .slice none 0 0, .slice none 0 0] := by
      rw [← hW0]
      have := BoxV.new (w.alloc (.cells #[.bool neg, .slice an ln cn, .slice ad ld cd] 60)) w.heap.size 24 (by simp) [.bool false, .slice none 0 0, .slice none 0 0]
      simpa using this
    have hby : BoxV W0 w.heap.size w.heap.size 60 [.bool neg, .slice an ln cn, .slice ad ld cd] := by
      rw [← hW0]
      exact (BoxV.new w w.heap.size 60 (Nat.le_refl _) [.bool neg, .slice an ln cn, .slice ad ld cd]).alloc _
    rw [hW0]
    have hcd := commonDivisor_any (.slice an ln cn) (.slice ad ld cd) n d k W0 (h1.below hbw) (h2.below hbw) (.inl hn0) hn hdk hk
    rw [hG] at hcd
    refine hcd.mono ?_
    rintro e w1 ⟨gv, rfl, hgv, hb1⟩
    have hcG := hgv.shape
    obtain ⟨ga, gl, gc, rfl⟩ := hcG
    obtain ⟨⟨k0, k1, k2⟩, f0, f1, f2⟩ := (hby.below hb1).three
    have H1 := Lib.hid (And.intro hbw (And.intro hbx (And.intro hby (And.intro hgv hb1))))
    clear h1 h2 hd hn hdk hG hG0 hgk hn0 hbw hbx hby hcd hgv hb1 hW0
    go_wp2_with fail
    obtain ⟨h1, h2, hd, hn, hdk, hG, hG0, hgk, hn0⟩ := HA.out
    obtain ⟨hbw, hbx, hby, hgv, hb1⟩ := H1.out
    refine (divide_any (.slice an ln cn) (.slice ga gl gc) n G k w1 (h1.below (below_next' hbw hb1)) hgv hG0 hn hk).mono ?_
    rintro e w2 ⟨q1, r1, rfl, hq1, hr1, hb2⟩
    obtain ⟨qa, ql, qc, rfl⟩ := hq1.shape
    obtain ⟨⟨k0', k1', k2'⟩, f0', f1', f2'⟩ := (hby.below (below_next hb1 hb2)).three
    have H2 := Lib.hid (And.intro hq1 hb2)
    clear h1 h2 hd hn hdk hG hG0 hgk hn0 hbw hbx hby hgv hb1 hq1 hr1 hb2
    go_wp2_with fail
    obtain ⟨h1, h2, hd, hn, hdk, hG, hG0, hgk, hn0⟩ := HA.out
    obtain ⟨hbw, hbx, hby, hgv, hb1⟩ := H1.out
    obtain ⟨hq1, hb2⟩ := H2.out
    refine (divide_any (.slice ad ld cd) (.slice ga gl gc) d G k w2 (h2.below (below_next' hbw (below_next hb1 hb2))) (hgv.below hb2) hG0 hdk hk).mono ?_
    rintro e w3 ⟨q2, r2, rfl, hq2, hr2, hb3⟩
    obtain ⟨pa, pl, pc, rfl⟩ := hq2.shape
    obtain ⟨⟨m0, m1, m2⟩, _⟩ := (hby.below (below_next (below_next hb1 hb2) hb3)).three
    obtain ⟨⟨t0, t1, t2⟩, g0, g1, g2⟩ := (hbx.below (below_next (below_next hb1 hb2) hb3)).three
    have H3 := Lib.hid (And.intro hq2 hb3)
    clear h1 h2 hd hn hdk hG hG0 hgk hn0 hbw hbx hby hgv hb1 hq1 hb2 hq2 hr2 hb3
    go_wp2
    obtain ⟨h1, h2, hd, hn, hdk, hG, hG0, hgk, hn0⟩ := HA.out
    obtain ⟨hbw, hbx, hby, hgv, hb1⟩ := H1.out
    obtain ⟨hq1, hb2⟩ := H2.out
    obtain ⟨hq2, hb3⟩ := H3.out
    have hbb := below_next (below_next hb1 hb2) hb3
    refine bodyPost_ret (v := .agg #[.bool neg, .slice qa ql qc, .slice pa pl pc]) (by simp [results, Try.results52, go_sem, t0, t1, t2]) rfl ⟨_, rfl, ?_, below_set3 (below_next' hbw hbb) (by simp) _ _ _⟩
    refine RatC.other (w := w3) ?_ (hbx.below hbb) noLimb_nil3 (grown_set3 _ _ _ _ _)
    exact ratC_mk hn0 hd (by rw [hG]; exact hq1.below hb3) (by rw [hG]; exact hq2)

end Go.Proofs.Ytdpiclmjdcjajaa
