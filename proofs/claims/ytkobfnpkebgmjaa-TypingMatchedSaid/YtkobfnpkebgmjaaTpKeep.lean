/-
  The walks of package amortcostkeep's guards over types: typ, Type. No condition but that the tree lies in older memory.
-/
import Derived.Test.YtkobfnpkebgmjaaBox
import Derived.Test.YtkobfnpkebgmjaaTpOpen
namespace Go.Proofs.Ytkobfnpkebgmjaa
open Go.RowKit Go.Deep

set_option maxRecDepth 100000 in
set_option maxHeartbeats 8000000 in
theorem typ_any (W0 : World) (p : Nat) : ∀ (n : Nat) (cs : List Value) (T : Tp), TpC W0.cell? n cs T → ∀ (w : World) (L : Int), Below W0.heap.size W0 w → BoxV w W0.heap.size p 3 [.int .i64 L] → 0 ≤ L → L ≤ 1000 →
    Calls Try.prog 17 #[.agg cs.toArray, .pointer (some ⟨p, 0, none⟩)] w (fun e w' => e = .returned (.bool (tpT T L).1) ∧ w.grownBy w' (some p) ∧ BoxV w' W0.heap.size p 3 [.int .i64 (tpT T L).2]) := by
  intro n
  induction n with
  | zero => intro cs T h; exact h.elim
  | succ n ih =>
    intro cs T hT w L hb hB hL hL2
    obtain ⟨k, s, us⟩ := T
    obtain ⟨v, rfl, hk, hs, a, cap, rfl, hcap, hcap2, hrow⟩ := hT
    have hB1 := hB.alloc (.cells #[.int .i64 k, .int .i64 s, .slice a us.length cap] 25)
    have c0 := hB1.cell 0 (by simp)
    have f0 := hB1.frozen 0
    have hB2 := boxV_setT hB 0 (.int .i64 (L - 1))
    have c1 := hB2.cell 0 (by simp)
    have f1 := hB2.frozen 0
    have e0 := hB.cell 0 (by simp)
    have w1 : IntKind.i64.wrap (L - 1) = L - 1 := IntWalk.i64_in _ (by omega)
    have hne : w.heap.size ≠ p := Nat.ne_of_gt hB.block.2
    have hB3 : BoxV _ W0.heap.size p 3 [.int .i64 (L - 1)] := boxV_setT hB1 0 (.int .i64 (L - 1))
    have hG := grown_trans (World.grownBy_alloc w (.cells #[.int .i64 k, .int .i64 s, .slice a us.length cap] 25) (some p)) (grown_set _ p 0 (.int .i64 (L - 1)))
    have hX := (BoxV.new w W0.heap.size 25 hb.size [.int .i64 k, .int .i64 s, .slice a us.length cap]).kept (grown_set _ p 0 (.int .i64 (L - 1))) (by simpa using hne)
    have H0 := Lib.hid (And.intro hB3 (And.intro hG (And.intro hX hne)))
    have HA := Lib.hid (And.intro ih (And.intro hrow (And.intro hb hB.block.1)))
    clear ih hrow hB3 hG hX hne hB1 hB2 hB hb
    by_cases g1 : L - 1 < 0
    · have hw : tpT (.mk k s us) L = (false, L - 1) := by unfold tpT; rw [if_pos g1]
      rw [hw]
      go_enter Try.func17, Try.ntmps17
      go_wp2_with fail
      go_ret
      exact ⟨rfl, H0.out.2.1, H0.out.1⟩
    have hw : tpT (.mk k s us) L = tpL us (L - 1) := by unfold tpT; rw [if_neg (by omega)]
    rw [hw]
    obtain ⟨R, hR⟩ : ∃ R, tpL us (L - 1) = R := ⟨_, rfl⟩
    have HR := Lib.hid hR
    rw [hR]
    clear hR hw
    go_enter Try.func17, Try.ntmps17
    go_wp2_with fail
    clear c0 f0 c1 f1 e0 w1
    generalize (w.alloc (.cells #[.int .i64 k, .int .i64 s, .slice a us.length cap] 25)).setCell ⟨p, 0, none⟩ (.int .i64 (L - 1)) = W1 at H0 ⊢
    go_loopw [5] (fun x wr => ∃ (i : Nat) (L1 : Int), i ≤ us.length ∧ x = .int .i64 i ∧ 0 ≤ L1 ∧ L1 ≤ 1000 ∧ tpL (us.drop i) L1 = R ∧ w.grownBy wr (some p) ∧ BoxV wr W0.heap.size p 3 [.int .i64 L1] ∧ BoxV wr W0.heap.size w.heap.size 25 [.int .i64 k, .int .i64 s, .slice a us.length cap]) (fun x _ => us.length - (intOf x).toNat)
    case atStart => exact ⟨0, L - 1, Nat.zero_le _, rfl, by omega, by omega, HR.out, H0.out.2.1, H0.out.1, H0.out.2.2.1⟩
    case round =>
      obtain ⟨i, L1, hi, rfl, hL1, hL1', hres, hg, hBp, hBx⟩ := hrel
      have d2 := hBx.cell 2 (by simp)
      by_cases hlt : i < us.length
      · have hii : (i : Int) < (us.length : Int) := by omega
        obtain ⟨b, o, cs', rfl, hcl, hcs, hTi⟩ := HA.out.2.1 i hlt
        match cs', hcl with
        | [t0, t1, t2], _ =>
          have hbr := HA.out.2.2.1.grown hg HA.out.2.2.1.size (fun q hq => by cases hq; exact HA.out.2.2.2)
          have i0 : wr.cell? ⟨b, o + i * 3, none⟩ = some t0 := cell_below hbr (hcs 0 (by omega))
          have i1 : wr.cell? ⟨b, o + i * 3 + 1, none⟩ = some t1 := cell_below hbr (hcs 1 (by omega))
          have i2 : wr.cell? ⟨b, o + i * 3 + 2, none⟩ = some t2 := cell_below hbr (hcs 2 (by omega))
          rw [tpL_drop hlt] at hres
          have H2 := Lib.hid (And.intro hTi (And.intro hres (And.intro hg (And.intro hBp (And.intro hBx hbr)))))
          clear hTi hres hg hBp hBx hbr hcs
          go_wp2_with fail
          refine (HA.out.1 _ _ H2.out.1 wr L1 H2.out.2.2.2.2.2 H2.out.2.2.2.1 (by omega) (by omega)).mono ?_
          rintro e w6 ⟨rfl, hg6, hB6⟩
          have hbd := tpT_bound us[i] L1 hL1
          have hX6 := H2.out.2.2.2.2.1.kept hg6 (by simpa using H0.out.2.2.2)
          have hg7 := grown_trans H2.out.2.2.1 hg6
          have hres := H2.out.2.1
          obtain ⟨r, hr⟩ : ∃ r, tpT us[i] L1 = r := ⟨_, rfl⟩
          obtain ⟨b1, L2⟩ := r
          rw [hr] at hB6 hbd hres ⊢
          clear i0 i1 i2 d2
          cases b1
          · have hRe : R = (false, L2) := hres.symm
            have HF := Lib.hid (And.intro hg7 (And.intro hB6 hRe))
            clear hg7 hB6 hRe hres hbd hX6 hg6 hr
            go_wp2_with fail
            go_ret
            rw [HF.out.2.2]
            exact ⟨rfl, HF.out.1, HF.out.2.1⟩
          · have hb2 := hbd.2 rfl
            have hL2 : 0 ≤ L2 := by have := hb2.1; have := hb2.2; simp only at *; omega
            have hL2' : L2 ≤ L1 := hbd.1.2
            have HF := Lib.hid (And.intro (show tpL (us.drop (i + 1)) L2 = R from hres) (And.intro hg7 (And.intro hB6 hX6)))
            clear hg7 hB6 hres hbd hX6 hg6 hr hb2
            go_wp2_with fail
            go_roundw
            case rel => exact ⟨i + 1, L2, by omega, by go_num, hL2, by omega, HF.out⟩
            case measure => simp [intOf] <;> omega
      · obtain rfl : i = us.length := by omega
        rw [List.drop_length, tpL] at hres
        have HF := Lib.hid (And.intro hg (And.intro hBp hres))
        clear hg hBp hres hBx hlt
        go_wp2_with fail
        go_ret
        rw [← HF.out.2.2]
        exact ⟨rfl, HF.out.1, HF.out.2.1⟩

/-- Does a type have at most 250 nodes? -/
def tpB (t : Tp) : Bool := (tpT t 250).1
theorem tpB_size {t : Tp} (h : tpB t = true) : size t ≤ 250 := by
  have := (tpT_bound t 250 (by omega)).2 h
  omega

set_option maxRecDepth 100000 in
set_option maxHeartbeats 4000000 in
theorem type_any (n : Nat) (cs : List Value) (T : Tp) (w : World) (hT : TpC w.cell? n cs T) :
    Calls Try.prog 6 #[.agg cs.toArray] w (fun e w' => e = .returned (.bool (tpB T)) ∧ Below w.heap.size w w') := by
  obtain ⟨k, s, us⟩ := T
  match n, hT with
  | n + 1, hT =>
    have hT' := hT
    obtain ⟨v, rfl, hk, hs, a, cap, rfl, hcap, hcap2, hrow⟩ := hT
    have HT := Lib.hid hT'
    clear hT' hrow
    have hX : BoxV ((w.alloc (.cells #[.int .i64 k, .int .i64 s, .slice a us.length cap] 25)).alloc (.cells #[.int .i64 250] 3)) w.heap.size (w.heap.size + 1) 3 [.int .i64 250] := by
      have := BoxV.new (w.alloc (.cells #[.int .i64 k, .int .i64 s, .slice a us.length cap] 25)) w.heap.size 3 (by simp) [.int .i64 250]
      simpa using this
    have hb1 : Below w.heap.size w ((w.alloc (.cells #[.int .i64 k, .int .i64 s, .slice a us.length cap] 25)).alloc (.cells #[.int .i64 250] 3)) := (below_alloc1 w _).alloc (by simp) _
    have HX := Lib.hid (And.intro hX hb1)
    clear hX hb1
    obtain ⟨T, hTe⟩ : ∃ T, Tp.mk k s us = T := ⟨_, rfl⟩
    rw [hTe] at HT ⊢
    clear hTe
    obtain ⟨r, hr⟩ : ∃ r, tpB T = r := ⟨_, rfl⟩
    rw [hr]
    have HR : Hid ((tpT T 250).1 = r) := Lib.hid hr
    clear hr
    go_enter Try.func6, Try.ntmps6
    go_wp2_with fail
    refine (typ_any w (w.heap.size + 1) (n + 1) _ _ HT.out _ 250 HX.out.2 HX.out.1 (by omega) (by omega)).mono ?_
    rintro e w6 ⟨rfl, hg6, hB6⟩
    have HF := Lib.hid (HX.out.2.grown hg6 HX.out.2.size (fun q hq => by cases hq; exact Nat.le_succ _))
    clear hg6 hB6
    rw [HR.out]
    go_wp2_with fail
    go_ret
    exact ⟨rfl, HF.out⟩
end Go.Proofs.Ytkobfnpkebgmjaa
