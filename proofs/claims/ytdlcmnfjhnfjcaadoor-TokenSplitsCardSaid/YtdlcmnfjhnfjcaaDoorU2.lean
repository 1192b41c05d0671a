/-
  The walk of the law TokenSplits, from the walks of both Split functions. Condition: the table of signs lies in memory as the program's text lays it.
-/
import Derived.Test.YtdlcmnfjhnfjcaaDoorT9
import Derived.Test.YtdlcmnfjhnfjcaaDoorT10
namespace Go.Proofs.YtdlcmnfjhnfjcaaDoor
open Go.RowKit Tok

/-- The reference's Split, whatever it answers. -/
def RefC (s : ByteArray) (P : World → Ending → World → Prop) : Prop := ∀ w, Calls Tryd.prog 8 #[.string s] w (P w)
theorem ref_ok (s : ByteArray) (w : World) (hsz : s.size ≤ maxLen) {L : List T} (h : Tok.split s.data.toList = .ok L) :
    Calls Tryd.prog 8 #[.string s] w fun e w' => ∃ a cap, e = .returned (.tuple #[.slice a L.length cap, .int .i64 0, .int .i64 0]) ∧ TokAt w' a L ∧ Below w.heap.size w w' := by
  refine (refSplit_any s w hsz).mono ?_
  rintro e w' ⟨V, rfl, hV, hb⟩
  rw [h] at hV
  obtain ⟨v, rfl, a, cap, rfl, hT⟩ := hV
  exact ⟨a, cap, rfl, fun i hi => by rw [Nat.mul_comm i 3]; exact hT i hi, hb⟩
theorem ref_bad (s : ByteArray) (w : World) (hsz : s.size ≤ maxLen) {p er : Nat} (h : Tok.split s.data.toList = .err p er) :
    Calls Tryd.prog 8 #[.string s] w fun e w' => e = .returned (.tuple #[.slice none 0 0, .int .i64 p, .int .i64 er]) ∧ Below w.heap.size w w' := by
  refine (refSplit_any s w hsz).mono ?_
  rintro e w' ⟨V, rfl, hV, hb⟩
  rw [h] at hV
  exact ⟨by rw [show V = _ from hV], hb⟩

set_option maxRecDepth 100000 in
set_option maxHeartbeats 1000000 in
theorem splits_bad (s : ByteArray) (w : World) (hS : SignsAt w) (p er : Nat)
    (cs : Calls Tryd.prog 7 #[.string s] w fun e w' => e = .returned (.tuple #[.slice none 0 0, .int .i64 p, .int .i64 er]) ∧ Below w.heap.size w w')
    (cr : ∀ w, Calls Tryd.prog 8 #[.string s] w fun e w' => e = .returned (.tuple #[.slice none 0 0, .int .i64 p, .int .i64 er]) ∧ Below w.heap.size w w') : Calls Tryd.prog 3 #[.string s] w (LawP w) := by
  go_enter Tryd.func3, Tryd.ntmps3
  go_wp2_with (first
    | (go_at_call 7; refine cs.mono ?_; rintro e w1 ⟨rfl, hb⟩; clear cs)
    | (go_at_call 8; refine (cr _).mono ?_; rintro e w2 ⟨rfl, hb2⟩; clear cr))
  go_loopw [39] (fun i wr => i = .int .i64 0 ∧ wr = w2) (fun _ _ => 0)
  case atStart => exact ⟨rfl, rfl⟩
  case round =>
    obtain ⟨rfl, rfl⟩ := hrel
    go_wp2_with (go_at_call 9; refine (awake_any _ ((hS.below hb).below hb2)).mono ?_; rintro e w3 ⟨rfl, hb3⟩)
    go_ret
    exact ⟨rfl, (hb.trans (hb2.mono hb.size)).trans (hb3.mono (Nat.le_trans hb.size hb2.size))⟩

set_option maxRecDepth 100000 in
set_option maxHeartbeats 2000000 in
theorem splits_ok (s : ByteArray) (w : World) (hS : SignsAt w) (L : List T) (n : Nat) (hn : L.length = n) (hL : n ≤ 16385)
    (cs : Calls Tryd.prog 7 #[.string s] w fun e w' => ∃ a cap, e = .returned (.tuple #[.slice a n cap, .int .i64 0, .int .i64 0]) ∧ TokAt w' a L ∧ Below w.heap.size w w')
    (cr : ∀ w, Calls Tryd.prog 8 #[.string s] w fun e w' => ∃ a cap, e = .returned (.tuple #[.slice a n cap, .int .i64 0, .int .i64 0]) ∧ TokAt w' a L ∧ Below w.heap.size w w') : Calls Tryd.prog 3 #[.string s] w (LawP w) := by
  have HN := Lib.hid hn
  clear hn
  go_enter Tryd.func3, Tryd.ntmps3
  go_wp2_with (first
    | (go_at_call 7; refine cs.mono ?_; rintro e w1 ⟨a, cap, rfl, hT, hb⟩; have HT := Lib.hid hT; clear cs hT)
    | (go_at_call 8; refine (cr _).mono ?_; rintro e w2 ⟨a2, cap2, rfl, hT2, hb2⟩; have HT2 := Lib.hid hT2; clear cr hT2))
  go_loopw [39] (fun i wr => ∃ k : Nat, k ≤ n ∧ i = .int .i64 k ∧ Below w2.heap.size w2 wr) (fun i _ => n - (intOf i).toNat)
  case atStart => exact ⟨0, by omega, rfl, Below.refl _ _⟩
  case round =>
    obtain ⟨k, hk, rfl, hbw⟩ := hrel
    by_cases hlt : k < n
    · have hlt2 : k < L.length := by rw [HN.out]; exact hlt
      obtain ⟨g, rfl, c1, c2, c3⟩ := (TokAt.below (TokAt.below HT.out hb2) hbw) k hlt2
      obtain ⟨g2, rfl, d1, d2, d3⟩ := (TokAt.below HT2.out hbw) k hlt2
      obtain ⟨t, ht⟩ : ∃ t, L[k] = t := ⟨_, rfl⟩
      rw [ht] at c1 c2 c3 d1 d2 d3
      clear ht
      go_wp2
      go_quiet (fail)
      go_wp2
      go_roundw
      case rel => exact ⟨k + 1, by omega, by go_num, below_drewN' hbw _⟩
      case measure => simp [intOf]; omega
    · obtain rfl : k = n := by omega
      have hSw := ((hS.below hb).below hb2).below hbw
      go_wp2_with (go_at_call 9; refine (awake_any _ hSw).mono ?_; rintro e w3 ⟨rfl, hb3⟩)
      go_ret
      exact ⟨rfl, ((hb.trans (hb2.mono hb.size)).trans (hbw.mono (Nat.le_trans hb.size hb2.size))).trans (hb3.mono (Nat.le_trans (Nat.le_trans hb.size hb2.size) hbw.size))⟩

theorem splits_any (s : ByteArray) (w : World) (hsz : s.size ≤ maxLen) (hS : SignsAt w) : Calls Tryd.prog 3 #[.string s] w (LawP w) := by
  cases h : Tok.split s.data.toList with
  | ok L =>
    rcases split_cases s.data.toList with ⟨Ts, h1, h2, h3, h4, h5⟩ | ⟨h5, p, e, h1, _⟩ | ⟨h5, h1⟩
    · rw [size_data] at h5 h4
      rw [h1] at h
      injection h with h
      subst h
      exact splits_ok s w hS _ _ rfl (by simp; omega) (split_ok s w hsz hS h1) (fun w => ref_ok s w hsz h1)
    · rw [h] at h1; cases h1
    · rw [h] at h1; cases h1
  | err p e => exact splits_bad s w hS p e (split_bad s w hsz hS h) (fun w => ref_bad s w hsz h)

end Go.Proofs.YtdlcmnfjhnfjcaaDoor
