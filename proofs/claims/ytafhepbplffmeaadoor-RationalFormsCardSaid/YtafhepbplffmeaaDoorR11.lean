/-
  The walk of Sub.
-/
import Derived.Test.YtafhepbplffmeaaDoorR10
namespace Go.Proofs.YtafhepbplffmeaaDoor
open Go.RowKit Num

theorem keep6s {W0 W : World} {B B' g g' t t' : Nat} {x y z x' y' z' : Value} (hb : BoxV W0 B g t [x, y, z]) (hb' : BoxV W0 B' g' t' [x', y', z']) (h : Below W0.heap.size W0 W) :
    W.cell? ⟨g, 0, none⟩ = some x ∧ W.cell? ⟨g, 1, none⟩ = some y ∧ W.cell? ⟨g, 2, none⟩ = some z ∧ W.cell? ⟨g', 0, none⟩ = some x' ∧ W.cell? ⟨g', 1, none⟩ = some y' ∧ W.cell? ⟨g', 2, none⟩ = some z' := by
  obtain ⟨k0, k1, k2, k3, k4, k5, _⟩ := keep6 hb hb' h
  exact ⟨k0, k1, k2, k3, k4, k5⟩

end Go.Proofs.YtafhepbplffmeaaDoor
