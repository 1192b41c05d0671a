/-
  The walks of negated, Neg, Abs, Div.
-/
import Derived.Test.YtafhepbplffmeaaDoorR8
namespace Go.Proofs.YtafhepbplffmeaaDoor
open Go.RowKit Num

theorem rat_not (s : Bool) (n d : Nat) : rat (!s) n d = - rat s n d := by
  unfold rat
  rw [Rat.neg_mkRat]
  cases s <;> simp

theorem rat_inv (s : Bool) (n d : Nat) : rat s d n = (rat s n d)⁻¹ := by
  unfold rat
  rw [← Rat.divInt_ofNat, ← Rat.divInt_ofNat, Rat.inv_divInt]
  cases s
  · simp
  · simp only [if_true]
    rw [← Rat.neg_divInt_neg]
    simp

theorem sgn_zero (q : Rat) : sgn q = 0 ↔ q = 0 := by
  unfold sgn
  by_cases h : q.num = 0
  · rw [if_pos h]
    exact ⟨fun _ => Rat.num_eq_zero.1 h, fun _ => rfl⟩
  · rw [if_neg h]
    refine ⟨fun e => ?_, fun e => absurd (by rw [e]; rfl) h⟩
    split at e <;> omega

theorem RatV.neg {w : World} {neg : Bool} {an ad : Option Addr} {n cn m cd k : Nat} {q : Rat} (h : RatV w neg an n cn ad m cd k q) : RatV w (!neg) an n cn ad m cd k (-q) := by
  obtain ⟨l1, l2, rfl, rfl, h1, h2, k1, k2, hq⟩ := h
  exact ⟨l1, l2, rfl, rfl, h1, h2, k1, k2, by rw [hq, rat_not]⟩

theorem RatV.inv {w : World} {neg : Bool} {an ad : Option Addr} {n cn m cd k : Nat} {q : Rat} (h : RatV w neg an n cn ad m cd k q) : RatV w neg ad m cd an n cn k q⁻¹ := by
  obtain ⟨l1, l2, rfl, rfl, h1, h2, k1, k2, hq⟩ := h
  exact ⟨l2, l1, rfl, rfl, h2, h1, k2, k1, by rw [hq]; exact (rat_inv _ _ _).symm⟩

theorem alloc2_box (w : World) (a b : List Value) (t : Nat) :
    BoxV ((w.alloc (.cells a.toArray t)).alloc (.cells b.toArray t)) w.heap.size w.heap.size t a ∧ BoxV ((w.alloc (.cells a.toArray t)).alloc (.cells b.toArray t)) w.heap.size (w.heap.size + 1) t b := by
  refine ⟨(BoxV.new w w.heap.size t (Nat.le_refl _) a).alloc _, ?_⟩
  have := BoxV.new (w.alloc (.cells a.toArray t)) w.heap.size t (by simp) b
  simpa using this

/-- What Div answers. -/
def QuoP (p q : Rat) (w : World) (e : Ending) (w' : World) : Prop := ∃ v, e = .returned (.tuple #[v, .bool (decide (q ≠ 0))]) ∧ RatC w' v (p / q) ∧ Below w.heap.size w w'

end Go.Proofs.YtafhepbplffmeaaDoor
