/-
  The walks of amortcostref6.Size, amortcostkeep.Types, amortcostkeep.Data. Condition for Size: at most 1000000 nodes.
-/
import Derived.Test.YtkobfnpkebgmjaaTpSame
namespace Go.Proofs.Ytkobfnpkebgmjaa
open Go.RowKit Go.Deep

theorem sizeL_take {us : List Tp} {i : Nat} (h : i < us.length) : sizeL (us.take (i + 1)) = sizeL (us.take i) + size us[i] := by
  induction us generalizing i with
  | nil => simp at h
  | cons t ts ih =>
    cases i with
    | zero => simp [sizeL]
    | succ i =>
      have hi : i < ts.length := by simpa using h
      rw [List.take_succ_cons, List.take_succ_cons, sizeL, sizeL, ih hi, List.getElem_cons_succ]
      omega
theorem sizeL_take_le (us : List Tp) (i : Nat) : sizeL (us.take i) ≤ sizeL us := by
  induction us generalizing i with
  | nil => simp
  | cons t ts ih =>
    cases i with
    | zero => simp [sizeL]
    | succ i =>
      have := ih i
      rw [List.take_succ_cons, sizeL, sizeL]
      omega

set_option maxRecDepth 100000 in
set_option maxHeartbeats 8000000 in
theorem size_any : ∀ (n : Nat) (cs : List Value) (T : Tp) (w : World), TpC w.cell? n cs T → size T ≤ 1000000 →
    Calls Try.prog 11 #[.agg cs.toArray] w (fun e w' => e = .returned (.int .i64 (size T)) ∧ Below w.heap.size w w') := by
  intro n
  induction n with
  | zero => intro cs T w h; exact h.elim
  | succ n ih =>
    intro cs T w hT hS
    obtain ⟨k, s, us⟩ := T
    obtain ⟨v, rfl, hk, hs, a, cap, rfl, hcap, hcap2, hrow⟩ := hT
    obtain ⟨N, hN⟩ : ∃ N, size (.mk k s us) = N := ⟨_, rfl⟩
    rw [hN] at hS ⊢
    rw [size] at hN
    have hP : BoxV (w.alloc (.cells #[.int .i64 k, .int .i64 s, .slice a us.length cap] 25)) w.heap.size w.heap.size 25 [.int .i64 k, .int .i64 s, .slice a us.length cap] := BoxV.new w w.heap.size 25 (Nat.le_refl _) _
    have hb := below_alloc1 w (.cells #[.int .i64 k, .int .i64 s, .slice a us.length cap] 25)
    have H0 := Lib.hid (And.intro hP hb)
    have HA := Lib.hid (And.intro ih (And.intro hrow hN))
    clear ih hrow hP hb hN
    go_enter Try.func11, Try.ntmps11
    go_wp2_with fail
    generalize w.alloc (.cells #[.int .i64 k, .int .i64 s, .slice a us.length cap] 25) = W1 at H0 ⊢
    go_loopw [3, 4] (fun x y wr => ∃ i : Nat, i ≤ us.length ∧ x = .int .i64 ((1 + sizeL (us.take i) : Nat) : Int) ∧ y = .int .i64 i ∧ Below w.heap.size w wr ∧ BoxV wr w.heap.size w.heap.size 25 [.int .i64 k, .int .i64 s, .slice a us.length cap]) (fun _ y _ => us.length - (intOf y).toNat)
    case atStart => exact ⟨0, Nat.zero_le _, by simp [sizeL], rfl, H0.out.2, H0.out.1⟩
    case round =>
      obtain ⟨i, hi, rfl, rfl, hb, hP⟩ := hrel
      have d2 := hP.cell 2 (by simp)
      by_cases hlt : i < us.length
      · have hii : (i : Int) < (us.length : Int) := by omega
        obtain ⟨b, o, cs', rfl, hcl, hcs, hTi⟩ := HA.out.2.1 i hlt
        match cs', hcl with
        | [t0, t1, t2], _ =>
          have i0 : wr.cell? ⟨b, o + i * 3, none⟩ = some t0 := cell_below hb (hcs 0 (by omega))
          have i1 : wr.cell? ⟨b, o + i * 3 + 1, none⟩ = some t1 := cell_below hb (hcs 1 (by omega))
          have i2 : wr.cell? ⟨b, o + i * 3 + 2, none⟩ = some t2 := cell_below hb (hcs 2 (by omega))
          have hst := sizeL_take hlt
          have hsl := sizeL_take_le us (i + 1)
          have hsz : 1 + sizeL (us.take (i + 1)) ≤ 1000000 := by have := HA.out.2.2; omega
          obtain ⟨M, hM⟩ : ∃ M, sizeL (us.take i) = M := ⟨_, rfl⟩
          obtain ⟨K, hK⟩ : ∃ K, size us[i] = K := ⟨_, rfl⟩
          have hKM : 1 + M + K ≤ 1000000 := by omega
          rw [hM]
          have HR := Lib.hid (And.intro hb (And.intro hP (And.intro (show TpC wr.cell? n [t0, t1, t2] us[i] from hTi.kept fun _ _ h => cell_below hb h) (And.intro hK (show 1 + sizeL (us.take (i + 1)) = 1 + M + K by omega)))))
          clear hb hP hTi hcs hst hsl hsz hM hK
          go_wp2_with fail
          refine (HA.out.1 [t0, t1, t2] us[i] wr HR.out.2.2.1 (by rw [HR.out.2.2.2.1]; omega)).mono ?_
          rintro e w6 ⟨rfl, hb6⟩
          rw [HR.out.2.2.2.1]
          have w1 : IntKind.i64.wrap (((1 + M : Nat) : Int) + (K : Int)) = ((1 + M : Nat) : Int) + (K : Int) := IntWalk.i64_in _ (by omega)
          have hF := Lib.hid (And.intro (below_next' HR.out.1 hb6) (HR.out.2.1.below hb6))
          clear hb6 i0 i1 i2 d2
          go_wp2_with fail
          go_roundw
          case rel => exact ⟨i + 1, by omega, by rw [HR.out.2.2.2.2]; first | rfl | (congr 1; omega) | go_num, by go_num, hF.out⟩
          case measure => simp [intOf] <;> omega
      · obtain rfl : i = us.length := by omega
        rw [List.take_length]
        have hF := Lib.hid (And.intro HA.out.2.2 hb)
        clear hb hP hlt
        go_wp2_with fail
        go_ret
        refine ⟨?_, hF.out.2⟩
        rw [← hF.out.1]
        first | rfl | (congr 2; omega)
end Go.Proofs.Ytkobfnpkebgmjaa
