/-
  A block of cells that the call itself made. No condition.
-/
import Derived.Test.YtkobfnpkebgmjaaTypes
import Derived.Test.YtkobfnpkebgmjaaFront
import Derived.WalkKit
import Derived.WalkSpells
import Derived.WalkLawsBesides
import Derived.BigQuiet
import Derived.Deep.QuietTactic
import Derived.RegionTactic
import Derived.Lib.Hide
namespace Go.Proofs.Ytkobfnpkebgmjaa
open Go.RowKit Go.Deep

/-- A block of cells that the call itself made. -/
def BoxV (w : World) (B g t : Nat) (xs : List Value) : Prop := w.ownsRow B t xs.length (.slice (some ⟨g, 0, none⟩) 1 1) 1 xs
theorem BoxV.cell {w : World} {B g t : Nat} {xs : List Value} (h : BoxV w B g t xs) (j : Nat) (hj : j < xs.length) : w.cell? ⟨g, j, none⟩ = xs[j]? := World.ownsRow.cellAt h j (by omega)
theorem BoxV.frozen {w : World} {B g t : Nat} {xs : List Value} (h : BoxV w B g t xs) (j : Nat) : w.frozen? ⟨g, j, none⟩ = false := World.ownsRow.frozenAt h j
theorem BoxV.kept {w w' : World} {B g t : Nat} {xs : List Value} {row : Option Nat} (h : BoxV w B g t xs) (hg : w.grownBy w' row) (hne : some g ≠ row) : BoxV w' B g t xs :=
  World.ownsRow.kept h hg (.inr (by simpa [Value.ownBlock] using hne))
theorem BoxV.below {w w' : World} {B g t : Nat} {xs : List Value} (h : BoxV w B g t xs) (hb : Below w.heap.size w w') : BoxV w' B g t xs :=
  h.kept (row := none) ⟨hb.os, hb.tape, hb.output, hb.size, fun k hk _ => hb.block k hk⟩ (by simp)
theorem BoxV.alloc {w : World} {B g t : Nat} {xs : List Value} (h : BoxV w B g t xs) (o : Obj) : BoxV (w.alloc o) B g t xs := World.ownsRow.alloc h o
theorem BoxV.new (w : World) (B t : Nat) (hB : B ≤ w.heap.size) (xs : List Value) : BoxV (w.alloc (.cells xs.toArray t)) B w.heap.size t xs := by
  have := World.ownsRow_lit (base := B) (e := t) (size := xs.length) w xs.toArray 1 hB (by unfold maxLen; omega) (by simp)
  unfold BoxV
  simpa using this
theorem BoxV.block {w : World} {B g t : Nat} {xs : List Value} (h : BoxV w B g t xs) : B ≤ g ∧ g < w.heap.size := World.ownsRow.lt h g rfl
theorem boxV_setT {w : World} {B g T : Nat} {xs : List Value} (h : BoxV w B g T xs) (j : Nat) (v : Value) : BoxV (w.setCell ⟨g, j, none⟩ v) B g T (xs.set j v) := by
  have := (World.ownsRow.stored h j v).1
  unfold BoxV
  rw [List.length_set]
  exact this
theorem below_alloc1 (w : World) (o : Obj) : Below w.heap.size w (w.alloc o) := (Below.refl _ _).alloc (Nat.le_refl _) o
theorem below_next' {w W0 W : World} (h : Below w.heap.size w W0) (k : Below W0.heap.size W0 W) : Below w.heap.size w W := h.trans (k.mono h.size)
theorem grown_trans {a b c : World} {row : Option Nat} (h : a.grownBy b row) (k : b.grownBy c row) : a.grownBy c row :=
  ⟨k.os.trans h.os, k.tape.trans h.tape, k.output.trans h.output, Nat.le_trans h.size k.size, fun i hi hn => (k.block i (Nat.lt_of_lt_of_le hi h.size) hn).trans (h.block i hi hn)⟩
theorem grown_set (w : World) (g o : Nat) (u : Value) : w.grownBy (w.setCell ⟨g, o, none⟩ u) (some g) :=
  ⟨rfl, rfl, rfl, by simp [World.setCell], fun k _ hn => Below.heap_setCell _ _ _ _ (fun e => hn (by rw [e]))⟩
theorem BoxV.heap {w : World} {B g t : Nat} {xs : List Value} (h : BoxV w B g t xs) : w.heap[g]? = some (.cells xs.toArray t (0, 0)) := by
  rcases h.2 with ⟨e, _⟩ | ⟨g', cap, cur, e, _, hg, _, _, hs, ht⟩
  · cases e
  · simp only [Value.slice.injEq, Option.some.injEq, Addr.mk.injEq, and_true, true_and] at e
    obtain ⟨rfl, rfl⟩ := e
    have : cur = xs.toArray := by
      apply Array.ext'
      rw [← ht, List.take_of_length_le (by rw [Array.length_toList, hs]; exact Nat.le_refl _)]
    rw [← this]
    exact hg
end Go.Proofs.Ytkobfnpkebgmjaa
