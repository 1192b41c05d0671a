/-
  The walk of divide: canonical numbers, the second not 0, at most 100000 limbs.
-/
import Derived.Test.YtdpiclmjdcjajaaN9
import Derived.Test.YtdpiclmjdcjajaaNum4
namespace Go.Proofs.Ytdpiclmjdcjajaa
open Go.RowKit Num

/-- Quotient and rest in memory. -/
def DivP (x y : Nat) (w : World) (e : Ending) (w' : World) : Prop :=
  ∃ q r, e = .returned (.tuple #[q, r]) ∧ Nt w' q (x / y) ∧ Nt w' r (x % y) ∧ Below w.heap.size w w'

theorem Nt.nil (w : World) : Nt w (.slice none 0 0) 0 := ⟨[], Lim.nil w, cano_nil, rfl⟩

set_option maxHeartbeats 1000000 in
theorem divide_less (u v : Value) (a b : List Nat) (w : World) (ha : Lim w u a) (hb : Lim w v b) (ca : Cano a) (cb : Cano b) (h : val a < val b) : Calls Try.prog 96 #[u, v] w (DivP (val a) (val b) w) := by
  have e1 : val a / val b = 0 := Nat.div_eq_of_lt h
  have e2 : val a % val b = val a := Nat.mod_eq_of_lt h
  have HE := Lib.hid (And.intro e1 (And.intro e2 (And.intro ha ca)))
  have hc := compare_any u v a b w ha hb ca cb
  have hneg : cmpI (val a) (val b) = -1 := cmpI_lt (by omega)
  have HC := Lib.hid (And.intro hc hneg)
  clear e1 e2 ha hb ca cb hc hneg h
  go_enter Try.func96, Try.ntmps96
  go_wp2_with fail
  obtain ⟨hc, hneg⟩ := HC.out
  refine hc.mono ?_
  rintro e w' ⟨rfl, n, rfl⟩
  rw [hneg]
  clear hc hneg
  go_wp2
  go_ret2
  obtain ⟨e1, e2, ha, ca⟩ := HE.out
  have hbel : Below w.heap.size w (w.drewN n) := below_drewN (Below.refl _ _) n
  refine ⟨_, _, rfl, by rw [e1]; exact Nt.nil _, by rw [e2]; exact ⟨a, ha.below hbel, ca, rfl⟩, hbel⟩

set_option maxHeartbeats 1000000 in
theorem divide_one (u v : Value) (a b : List Nat) (w : World) (ha : Lim w u a) (hb : Lim w v b) (ca : Cano a) (cb : Cano b) (h : val b ≤ val a) (hl : b.length = 1) (hn : a.length ≤ 1000000) :
    Calls Try.prog 96 #[u, v] w (DivP (val a) (val b) w) := by
  have hc := compare_any u v a b w ha hb ca cb
  have hpos : cmpI (val a) (val b) = 0 ∨ cmpI (val a) (val b) = 1 := by
    rcases Nat.lt_or_ge (val b) (val a) with h1 | h1
    · exact .inr (cmpI_gt (by omega))
    · exact .inl (cmpI_eq (by omega))
  obtain ⟨x, rfl⟩ : ∃ x, b = [x] := List.length_eq_one_iff.1 hl
  have hx0 : x ≠ 0 := by rcases cb.2 with h2 | h2; simp at h2; simpa [nth] using h2
  have hx1 : x < 1000000000 := cb.1 0
  have hv : val [x] = x := by simp [val]
  obtain ⟨p, cap, rfl, b1, b2, b3, b4⟩ := hb
  obtain ⟨bb, bo, rfl, hcell⟩ := b4 0 (by simp)
  rw [Nat.add_zero, nth_cons_zero] at hcell
  have HC := Lib.hid (And.intro hc (And.intro ha (And.intro ca (And.intro hv (And.intro hx0 hpos)))))
  have hx2 : 1 ≤ x := by omega
  clear hc hpos ha ca cb h hl b1 b3 b4 hv hx0
  go_enter Try.func96, Try.ntmps96
  go_wp2_with fail
  obtain ⟨hc, ha, ca, hv, hx0, hpos⟩ := HC.out
  refine hc.mono ?_
  rintro e w' ⟨rfl, n, rfl⟩
  have hbel : Below w.heap.size w (w.drewN n) := below_drewN (Below.refl _ _) n
  have hdiv := divideByLimb_any u a x (w.drewN n) (ha.below hbel) ca.1 hn (by omega) hx1
  have HD := Lib.hid (And.intro hdiv hbel)
  clear hc ha ca hv hx0 hdiv hbel
  rcases hpos with hpos | hpos
  all_goals
    rw [hpos]
    clear hpos
    go_wp2_with fail
    obtain ⟨hdiv, hbel⟩ := HD.out
    refine hdiv.mono ?_
    rintro e w' ⟨q, rfl, hnt, hbel2⟩
    have hr : val a % x < x := Nat.mod_lt _ (by omega)
    have hnat := naturalOf_any (val a % x) (by omega) w'
    have HN := Lib.hid (And.intro hnat (And.intro hnt (And.intro hbel hbel2)))
    obtain ⟨r, hreq⟩ : ∃ r, r = val a % x := ⟨_, rfl⟩
    rw [← hreq] at hr ⊢
    have HR := Lib.hid hreq
    clear hdiv hbel hbel2 hnt hnat hreq
    go_wp2_with fail
    obtain ⟨hnat, hnt, hbel, hbel2⟩ := HN.out
    rw [← HR.out] at hnat
    refine hnat.mono ?_
    rintro e w2 ⟨rv, rfl, hnr, hbel3⟩
    have HF := Lib.hid (And.intro hnr (And.intro hbel3 (And.intro hnt (And.intro hbel hbel2))))
    clear hnr hbel3 hnt hbel hbel2 hnat
    go_wp2
    go_ret2
    obtain ⟨hnr, hbel3, hnt, hbel, hbel2⟩ := HF.out
    obtain ⟨hc, ha, ca, hv, hx0, hpos⟩ := HC.out
    refine ⟨q, rv, rfl, by rw [hv]; exact hnt.below hbel3, by rw [hv, ← HR.out]; exact hnr, (hbel.trans hbel2).trans (hbel3.mono hbel2.size)⟩

theorem Own.mono {w : World} {B B' g n : Nat} {L : List Nat} (h : Own w B g n L) (hB : B' ≤ B) : Own w B' g n L := by
  obtain ⟨h1, h2, h3, h4, h5⟩ := h
  refine ⟨h1, h2, h3, h4, ?_⟩
  rcases h5 with h5 | ⟨g', cap, cur, e, hb, r⟩
  · exact .inl h5
  · exact .inr ⟨g', cap, cur, e, Nat.le_trans hB hb, r⟩

theorem apart_row {g h n c : Nat} {o : Nat} (hne : h ≠ g) : Apart g (.slice (some ⟨h, o, none⟩) n c) := fun ad n' c' e => by
  simp only [Value.slice.injEq, Option.some.injEq] at e
  rw [← e.1]; exact hne

def LoopR (a : List Nat) (m F B g gq g2 : Nat) (D : List Nat) (w wr : World) (q : Int) : Prop :=
  ∃ R Q : List Nat, -1 ≤ q ∧ q < ((a.length - m - 1 : Nat) : Int) ∧ Own wr B g (a.length + 1) R ∧ Own wr B gq (a.length - m - 1) Q ∧ Lim wr (.slice (some ⟨g2, 0, none⟩) (m + 2) (m + 3)) D ∧ Lo R ∧ Lo Q ∧
    F * val a = val R + val (Q.drop (q + 1).toNat) * val D * pw (q + 1).toNat ∧ val (R.drop (q + 1).toNat) < val D ∧ Below B w wr

set_option maxRecDepth 100000 in
set_option maxHeartbeats 4000000 in
theorem divide_long (u v : Value) (a b : List Nat) (m : Nat) (w : World) (ha : Lim w u a) (hb : Lim w v b) (ca : Cano a) (cb : Cano b) (h : val b ≤ val a) (hl : b.length = m + 2) (hn : a.length ≤ 100000) :
    Calls Try.prog 96 #[u, v] w (DivP (val a) (val b) w) := by
  have hal : m + 2 ≤ a.length := by
    rcases Nat.lt_or_ge a.length (m + 2) with h1 | h1
    · have := can_len_lt ca cb (by omega); omega
    · exact h1
  have hc := compare_any u v a b w ha hb ca cb
  obtain ⟨cc, hcc, hcc0⟩ : ∃ cc : Int, cmpI (val a) (val b) = cc ∧ 0 ≤ cc := by
    rcases Nat.lt_or_ge (val b) (val a) with h1 | h1
    · exact ⟨_, cmpI_gt (by omega), by omega⟩
    · exact ⟨_, cmpI_eq (by omega), by omega⟩
  have ht1 : 1 ≤ nth b (m + 1) := by
    rcases cb.2 with h1 | h1
    · omega
    · rw [hl, show m + 2 - 1 = m + 1 by omega] at h1; omega
  have ht2 := cb.1 (m + 1)
  obtain ⟨hF1, hF2, hF3⟩ := factor_ge ht1 ht2
  have hm100 : m ≤ 100000 := by omega
  obtain ⟨av, acap, rfl, a1, a2, a3, a4⟩ := ha
  obtain ⟨bv, bcap, rfl, b1, b2, b3, b4⟩ := hb
  obtain ⟨bb, bo, rfl, hcell⟩ := b4 (m + 1) (by omega)
  have ha : Lim w (.slice av a.length acap) a := ⟨av, acap, rfl, a1, a2, a3, a4⟩
  have hb : Lim w (.slice (some ⟨bb, bo, none⟩) b.length bcap) b := ⟨_, bcap, rfl, b1, b2, b3, b4⟩
  obtain ⟨F, hF⟩ : ∃ F, F = 1000000000 / (nth b (m + 1) + 1) := ⟨_, rfl⟩
  rw [← hF] at hF1 hF2 hF3
  have hFi : (F : Int) = 1000000000 / (((nth b (m + 1) : Nat) : Int) + 1) := by rw [hF]; simp
  rw [hl] at b1 hc hb ⊢
  have HC := Lib.hid (And.intro hc (And.intro ha (And.intro hb (And.intro ca (And.intro cb (And.intro hF1 (And.intro hF2 (And.intro hF3 (And.intro hF (And.intro hFi (And.intro hl h)))))))))))
  have hF0 : 1 ≤ F := hF1
  have hFm : F ≤ 999999999 := by omega
  clear hc ha hb ca cb hF1 hF2 hF3 hF hFi hl h a3 a4 b3 b4
  go_enter Try.func96, Try.ntmps96
  go_wp2_with fail
  obtain ⟨hc, ha, hb, ca, cb, hF1, hF2, hF3, hF, hFi, hl, h⟩ := HC.out
  refine hc.mono ?_
  rintro e w' ⟨rfl, n, rfl⟩
  obtain ⟨w1, hw1⟩ : ∃ w1, w1 = w.drewN n := ⟨_, rfl⟩
  have hbel : Below w.heap.size w w1 := by rw [hw1]; exact below_drewN (Below.refl _ _) n
  rw [← hw1]
  have hcell1 := (hbel.cell (World.block_lt_of_cell? w _ hcell)).trans hcell
  clear hw1 hc
  have hmul1 := multiplyByLimb_any _ a F w1 (ha.below hbel) ca.1 (by omega) hF2
  have HM := Lib.hid (And.intro hmul1 hbel)
  clear ha hb ca cb hF1 hF2 hF3 hF hl h hmul1 hbel hcell
  have HFI := Lib.hid hFi
  clear hFi
  have hsz : ((m : Int) + 2 == 1) = false := by rw [beq_eq_false_iff_ne]; omega
  rw [hcc]
  have HCC := Lib.hid hcc
  clear hcc
  go_wp2_with fail
  rw [← HFI.out]
  obtain ⟨hmul1, hbel⟩ := HM.out
  refine hmul1.mono ?_
  rintro e w2 ⟨g, R, rfl, hR, hRlo, hRv, hb2⟩
  obtain ⟨hc, ha, hb, ca, cb, hF1, hF2, hF3, hF, hFi, hl, h⟩ := HC.out
  have hbel2 : Below w.heap.size w w2 := hbel.trans (hb2.mono hbel.size)
  have hmul2 := multiplyByLimb_any _ b F w2 (hb.below hbel2) cb.1 (by omega) hF2
  rw [hl] at hmul2
  have H2 := Lib.hid (And.intro hmul2 (And.intro hR (And.intro hRlo (And.intro hRv (And.intro hb2 hbel2)))))
  clear hmul1 hmul2 hR hRlo hRv hb2 hbel hbel2 hc ha hb ca cb hF1 hF2 hF3 hF hl h
  have HFI2 := Lib.hid hFi
  clear hFi
  go_wp2_with fail
  obtain ⟨hmul2, hR, hRlo, hRv, hb2, hbel2⟩ := H2.out
  refine hmul2.mono ?_
  rintro e w3 ⟨g2, S, rfl, hS, hSlo, hSv, hb3⟩
  go_wp2_with fail
  have hS1 := hS.lim
  obtain ⟨av3, cap3, e3, s1, s2, s3, s4⟩ := hS1
  simp only [Value.slice.injEq] at e3
  obtain ⟨rfl, h_, rfl⟩ := e3
  clear h_
  refine (trim_walk _ (m + 2 + 1) (m + 2 + 1) S w3 (Nat.le_refl _) (by omega) hS.len (by rw [hS.len] at s4; exact s4)).mono ?_
  rintro e w3' ⟨k, hk, rfl, hkz, hkn, rfl⟩
  obtain ⟨hc, ha, hb, ca, cb, hF1, hF2, hF3, hF, hFi, hl, h⟩ := HC.out
  have hDc : Cano (S.take k) := can_take hSlo k (by rw [hS.len]; exact hk) hkn
  have hDv : val (S.take k) = F * val b := by rw [val_take_zeros k (by rw [hS.len]; exact hk) hkz, hSv]
  have hDl := scaled_len cb hDc hl hF3 hF1 hDv
  obtain rfl : k = m + 2 := by rw [List.length_take, hS.len] at hDl; omega
  have hlimS := hS.lim
  rw [hS.len.symm] at hlimS
  have hD : Lim w3 (.slice (some ⟨g2, 0, none⟩) (m + 2) (m + 3)) (S.take (m + 2)) := by
    have := hlimS.take (m + 2) (by rw [hS.len]; omega)
    rwa [hS.len] at this
  obtain ⟨D, hDd⟩ : ∃ D, D = S.take (m + 2) := ⟨_, rfl⟩
  rw [← hDd] at hD hDv hDc hDl
  have hg2 : g2 ≠ g := by
    have h1 := hS.block; have h2 := hR.block; omega
  have hbel3 : Below w.heap.size w w3 := hbel2.trans (hb3.mono hbel2.size)
  have hR3 : Own w3 w.heap.size g (a.length + 1) R := (hR.below hb3).mono (by have h1 := hR.block; have h2 := hbel2.size; have := HM.out.2.size; omega)
  have hg2s := hS.block
  have hstart := start_lt ca cb hl hRv hR.len hal hF1 hDv
  have H3 := Lib.hid (And.intro hD (And.intro hDv (And.intro hDc (And.intro hDl (And.intro hbel3 (And.intro hR3 (And.intro hRlo (And.intro hRv hstart))))))))
  have hsz3 : w.heap.size ≤ w3.heap.size := hbel3.size
  have hgB := hR3.block
  have hg2B : w.heap.size ≤ g2 := by have := hbel2.size; omega
  clear hD hDv hDc hDl hbel3 hR3 hRlo hRv hmul2 hR hb2 hbel2 hb3 hS hSlo hSv s1 s2 s3 s4 hk hkz hkn hlimS hDd hc ha hb ca cb hF1 hF2 hF3 hF hl h hFi hstart
  obtain ⟨i0, hi, hz0, hz1, hz2⟩ := info_parts Try.info58
  go_wp2_with (at_make; refine wpList_make_full _ rfl _ _ 55 rfl w.heap.size 58 i0 (.int .u32 0) 1 Try.underlying55 hi hz0 hz1 _ _ _ _ (a.length - m - 1) rfl rfl (by omega) (by omega) ?b2 ?b3 hsz3 ?_)
  case b2 => rw [hz2]; omega
  case b3 => unfold maxLen; omega
  intro w4 hown4 hgrow4
  have hownQ : Own w4 w.heap.size w3.heap.size (a.length - m - 1) (List.replicate (a.length - m - 1) 0) := own_made hown4 (by omega)
  have HQ4 := Lib.hid (And.intro hownQ hgrow4)
  clear hown4 hgrow4 hi hz0 hz1 hz2 hownQ
  go_wp2
  go_loopw [11] (fun i wr => ∃ q : Int, i = .int .i64 q ∧ LoopR a m F w.heap.size g w3.heap.size g2 D w wr q) (fun i _ => (intOf i + 1).toNat)
  case atStart =>
    obtain ⟨hD, hDv, hDc, hDl, hbel3, hR3, hRlo, hRv, hstart⟩ := H3.out
    obtain ⟨hownQ, hgrow4⟩ := HQ4.out
    have hb4 : Below w3.heap.size w3 w4 := (Below.refl _ _).grown hgrow4 (Nat.le_refl _) (fun k h => by cases h)
    refine ⟨_, rfl, R, _, by omega, by omega, hR3.below hb4, hownQ, hD.below hb4, hRlo, lo_replicate _, ?_, ?_, hbel3.trans (hb4.mono hsz3)⟩
    · rw [List.drop_of_length_le (by simp), hRv]; simp [val]
    · rw [show (((a.length - m - 1 : Nat) : Int) - 1 + 1).toNat = a.length - m - 1 by omega]; exact hstart
  case round =>
    obtain ⟨q, rfl, R', Q', g1, g2', hRw, hQw, hDw, hRl, hQl, hval, htop, hbw⟩ := hrel
    by_cases hq : q = -1
    · subst hq
      have HE := Lib.hid (And.intro hRw (And.intro hQw (And.intro hRl (And.intro hQl (And.intro hval (And.intro htop hbw))))))
      clear hRw hQw hDw hRl hQl hval htop hbw
      go_wp2_with fail
      obtain ⟨hRw, hQw, hRl, hQl, hval, htop, hbw⟩ := HE.out
      refine (trim_any _ R' wr hRw.lim hRl).mono ?_
      rintro e w5 ⟨v1, rfl, ⟨l1, hlim1, hc1, hv1⟩, rfl⟩
      have hlen1 : l1.length ≤ a.length + 1 := cano_len hc1 (by rw [hv1]; have := val_lt hRl; rwa [hRw.len] at this)
      have hd1 := divideByLimb_any v1 l1 F wr hlim1 hc1.1 (by omega) (by omega) (by omega)
      rw [hv1] at hd1
      have HD1 := Lib.hid hd1
      clear hRw hQw hRl hQl hval htop hbw hlim1 hc1 hv1 hd1 hlen1
      go_wp2_with fail
      refine HD1.out.mono ?_
      rintro e w6 ⟨v2, rfl, hNt2, hb6⟩
      have HD2 := Lib.hid (And.intro hNt2 hb6)
      clear hNt2 hb6
      go_wp2_with fail
      obtain ⟨hNt2, hb6⟩ := HD2.out
      obtain ⟨hRw, hQw, hRl, hQl, hval, htop, hbw⟩ := HE.out
      refine (trim_any _ Q' w6 (hQw.below hb6).lim hQl).mono ?_
      rintro e w7 ⟨v3, rfl, hNt3, rfl⟩
      have HD3 := Lib.hid hNt3
      clear hRw hQw hRl hQl hval htop hbw hNt2 hb6 hNt3
      go_wp2
      go_ret2
      obtain ⟨hNt2, hb6⟩ := HD2.out
      obtain ⟨hRw, hQw, hRl, hQl, hval, htop, hbw⟩ := HE.out
      obtain ⟨hD, hDv, hDc, hDl, hbel3, hR3, hRlo, hRv, hstart⟩ := H3.out
      have e0 : ((-1 : Int) + 1).toNat = 0 := rfl
      rw [e0, List.drop_zero, pw_zero, Nat.mul_one, hDv] at hval
      rw [e0, List.drop_zero, hDv] at htop
      obtain ⟨f1, f2⟩ := div_end hF0 hval htop
      rw [f2] at hNt2
      have hNt3 := HD3.out
      rw [f1] at hNt3
      exact ⟨v3, v2, rfl, hNt3, hNt2, hbw.trans (hb6.mono hbw.size)⟩
    · obtain ⟨j, rfl⟩ : ∃ j : Nat, q = j := ⟨q.toNat, by omega⟩
      rw [toNat_up] at hval htop
      obtain ⟨hD, hDv, hDc, hDl, hbel3, hR3, hRlo, hRv, hstart⟩ := H3.out
      have hDlt := val_lt hDc.1
      rw [hDl] at hDlt
      obtain ⟨k1, k2, k3, k4⟩ := window hRw.len (i := j) (m := m) (by omega) hRl htop (Nat.le_of_lt hDlt)
      have hlenX : ((R'.drop j).take (m + 3)).length = m + 3 := by rw [List.length_take, List.length_drop, hRw.len]; omega
      have hlenP : (R'.take j).length = j := by rw [List.length_take, hRw.len]; omega
      have hXlo : Lo ((R'.drop j).take (m + 3)) := (hRl.drop j).take (m + 3)
      have hf1 : 1 ≤ nth D (m + 1) := by
        rcases hDc.2 with h1 | h1
        · omega
        · rw [hDl, show m + 2 - 1 = m + 1 by omega] at h1; omega
      have hRw2 := hRw
      rw [k1] at hRw2
      have htake := fun c => takeMultiple_any w.heap.size g (a.length + 1) j m c (m + 3) _ _ _ D (some ⟨g2, 0, none⟩) wr hlenP hRw2 hDw (apart_row hg2) hXlo hDc.1 hlenX hDl hf1 k3 (by omega)
      have HT := Lib.hid (And.intro htake (And.intro hQw (And.intro hDw (And.intro hRl (And.intro hQl (And.intro hval (And.intro htop (And.intro hbw (And.intro k2 (And.intro k4 (And.intro hlenX (And.intro hlenP (And.intro hDl hDlt)))))))))))))
      have hfrQ := hQw.frozen j
      have hoQ := hQw.cell j (by omega)
      have hblkQ := hQw.block
      clear htake hRw hRw2 hQw hDw hRl hQl hval htop hbw k1 k2 k3 k4 hlenX hlenP hXlo hf1 hD hDv hDc hDl hbel3 hR3 hRlo hRv hstart hDlt
      go_wp2_with fail
      obtain ⟨htake, hQw, hDw, hRl, hQl, hval, htop, hbw, k2, k4, hlenX, hlenP, hDl, hDlt⟩ := HT.out
      rw [show j + (m + 2) + 1 - j = m + 3 by omega]
      refine (htake _).mono ?_
      rintro e w5 ⟨X', rfl, hR5, hlX', hX'lo, hX'v, hX'0, hgr5⟩
      have hneq : w3.heap.size ≠ g := by omega
      have hQ5 : Own w5 w.heap.size w3.heap.size (a.length - m - 1) Q' := hQw.kept hgr5 (by simpa using hneq)
      have hfrQ5 := hQ5.frozen j
      have hoQ5 := hQ5.cell j (by omega)
      obtain ⟨dd, hdd⟩ : ∃ dd, dd = val ((R'.drop j).take (m + 3)) / val D := ⟨_, rfl⟩
      rw [← hdd]
      have hdd2 : dd < 1000000000 := by rw [hdd]; exact Nat.div_lt_of_lt_mul (window (R := R') (i := j) (m := m) (N := a.length + 1) (by rw [List.length_take] at hlenP; simp only [List.length_take, List.length_drop] at hlenX; have := hR5.len; simp only [List.length_append, List.length_take, List.length_drop, hlX'] at this; omega) (by omega) hRl htop (Nat.le_of_lt hDlt)).2.2.1
      have HU := Lib.hid (And.intro hR5 (And.intro hlX' (And.intro hX'lo (And.intro hX'v (And.intro hX'0 (And.intro hgr5 (And.intro hQ5 (And.intro hdd hneq))))))))
      clear htake hQw hDw hRl hQl hval htop hbw k2 k4 hlenX hlenP hDl hR5 hlX' hX'lo hX'v hX'0 hgr5 hQ5 hdd hfrQ hoQ hDlt hneq
      go_wp2
      go_roundw
      case rel =>
        obtain ⟨htake, hQw, hDw, hRl, hQl, hval, htop, hbw, k2, k4, hlenX, hlenP, hDl, hDlt⟩ := HT.out
        obtain ⟨hR5, hlX', hX'lo, hX'v, hX'0, hgr5, hQ5, hdd, hneq⟩ := HU.out
        have hst : w5.grownBy (w5.setCell ⟨w3.heap.size, j, none⟩ (.int .u32 dd)) (some w3.heap.size) := grown_setCell (World.grownBy.refl _ _) _
        have hDpos : 0 < val D := by omega
        have hdm : val ((R'.drop j).take (m + 3)) = dd * val D + val X' := by
          have e1 := Nat.div_add_mod (val ((R'.drop j).take (m + 3))) (val D)
          rw [hX'v, hdd, Nat.mul_comm]; exact e1.symm
        have hg2q : g2 ≠ w3.heap.size := by omega
        have eT : ((j : Int) - 1 + 1).toNat = j := by omega
        refine ⟨(j : Int) - 1, rfl, R'.take j ++ X' ++ R'.drop (j + (m + 3)), Q'.set j dd, by omega, by omega, hR5.kept hst (by simpa using fun e => hneq e.symm), hQ5.store' j dd _ rfl (by omega), (hDw.grown hgr5 (apart_row hg2)).grown hst (apart_row hg2q), lo_append (lo_append (hRl.take j) hX'lo) (hRl.drop _), lo_set_drop (by rw [hQw.len]; omega) hQl hdd2, ?_, ?_, ?_⟩
        · rw [eT, val_mid X' hlenP k2]
          exact div_step (by rw [k4] at hval; exact hval) hdm (set_drop_val Q' j dd (by rw [hQw.len]; omega))
        · rw [eT, drop_mid _ _ _ _ hlenP, val_tail X' k2, hX'v]
          exact Nat.mod_lt _ hDpos
        · exact (hbw.trans ((Below.refl _ _).grown hgr5 hbw.size (fun k hk => by cases hk; exact hgB.1))).trans ((Below.refl _ _).setCell (p := ⟨w3.heap.size, j, none⟩) hsz3 _)
      case measure => simp [intOf]

/-- Quotient and rest of canonical numbers. -/
theorem divide_any (u v : Value) (x y k : Nat) (w : World) (ha : Nt w u x) (hb : Nt w v y) (hy : 0 < y) (hx : x < pw k) (hk : k ≤ 100000) : Calls Try.prog 96 #[u, v] w (DivP x y w) := by
  obtain ⟨a, ha, ca, rfl⟩ := ha
  obtain ⟨b, hb, cb, rfl⟩ := hb
  have hl := cano_len ca hx
  rcases Nat.lt_or_ge (val a) (val b) with h | h
  · exact divide_less u v a b w ha hb ca cb h
  · have h0 : b.length ≠ 0 := fun e => by have := (cb.zero).2 e; omega
    by_cases h1 : b.length = 1
    · exact divide_one u v a b w ha hb ca cb h h1 (by omega)
    · exact divide_long u v a b (b.length - 2) w ha hb ca cb h (by omega) (by omega)

end Go.Proofs.Ytdpiclmjdcjajaa
