/-
  The walk of amortcostkeep.Rat: whether a number has at most eight limbs above and below. No conditions.
-/
import Derived.Test.YtdpiclmjdcjajaaFlow3
import Derived.Test.YtdpiclmjdcjajaaC1
namespace Go.Proofs.Ytdpiclmjdcjajaa
open Go.RowKit Num

set_option maxHeartbeats 1000000 in
theorem keepRat_any (neg : Bool) (an ad : Option Addr) (n cn m cd : Nat) (w : World) :
    Calls Try.prog 60 #[.agg #[.bool neg, .slice an n cn, .slice ad m cd]] w (fun e w' => e = .returned (.bool (decide (n ≤ 8 ∧ m ≤ 8))) ∧ Below w.heap.size w w') := by
  by_cases h1 : n ≤ 8
  · by_cases h2 : m ≤ 8
    · go_enter Try.func60, Try.ntmps60
      go_wp2
      go_ret
      exact ⟨by simp [h1, h2]; omega, below_alloc1 _ _⟩
    · go_enter Try.func60, Try.ntmps60
      go_wp2
      go_ret
      exact ⟨by simp [h2]; omega, below_alloc1 _ _⟩
  · go_enter Try.func60, Try.ntmps60
    go_wp2
    go_ret
    exact ⟨by simp, below_alloc1 _ _⟩

end Go.Proofs.Ytdpiclmjdcjajaa
