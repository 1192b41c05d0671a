/-
  The walk of amortcostkeep.Rat: whether a number has at most eight limbs above and below. No conditions.
-/
import Derived.Test.YtafhepbplffmeaaDoorFlow3
import Derived.Test.YtafhepbplffmeaaDoorC1
namespace Go.Proofs.YtafhepbplffmeaaDoor
open Go.RowKit Num

set_option maxHeartbeats 1000000 in
theorem keepRat_any (neg : Bool) (an ad : Option Addr) (n cn m cd : Nat) (w : World) :
    Calls Tryd.prog 6 #[.agg #[.bool neg, .slice an n cn, .slice ad m cd]] w (fun e w' => e = .returned (.bool (decide (n ≤ 8 ∧ m ≤ 8))) ∧ Below w.heap.size w w') := by
  by_cases h1 : n ≤ 8
  · by_cases h2 : m ≤ 8
    · go_enter Tryd.func6, Tryd.ntmps6
      go_wp2
      go_ret
      exact ⟨by simp [h1, h2]; omega, below_alloc1 _ _⟩
    · go_enter Tryd.func6, Tryd.ntmps6
      go_wp2
      go_ret
      exact ⟨by simp [h2]; omega, below_alloc1 _ _⟩
  · go_enter Tryd.func6, Tryd.ntmps6
    go_wp2
    go_ret
    exact ⟨by simp, below_alloc1 _ _⟩

end Go.Proofs.YtafhepbplffmeaaDoor
