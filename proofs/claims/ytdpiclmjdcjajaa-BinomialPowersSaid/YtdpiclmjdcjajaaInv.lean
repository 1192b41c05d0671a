/-
  A region of any order, by an invariant over what has been done.
-/
import Derived.Orders
namespace Go.Proofs.Ytdpiclmjdcjajaa
open Go

/-- How many operations are still to do. -/
def left (ops : Array Oper) (l : Array Bool) : Nat := ((List.range ops.size).filter fun i => !l.getD i true).length

theorem ready_left {md : Region.Mode} {ops : Array Oper} {l : Array Bool} {i : Nat} (h : i ∈ Region.ready md ops l) : i < ops.size ∧ l.getD i true = false := by
  simp only [Region.ready, List.mem_filter, List.mem_range, Bool.and_eq_true, Bool.not_eq_true'] at h
  exact ⟨h.1, h.2.1⟩

theorem left_set {ops : Array Oper} {l : Array Bool} {i : Nat} (h : i < ops.size) (hl : l.getD i true = false) : left ops (l.setIfInBounds i true) < left ops l := by
  have hi : i < l.size := by
    rcases Nat.lt_or_ge i l.size with h' | h'
    · exact h'
    · simp [Array.getD, Nat.not_lt.mpr h'] at hl
  have he : ((List.range ops.size).filter fun j => !(l.setIfInBounds i true).getD j true) = ((List.range ops.size).filter fun j => !l.getD j true).filter (fun j => j != i) := by
    rw [List.filter_filter]
    refine List.filter_congr ?_
    intro j _
    by_cases hj : j = i
    · subst hj
      simp [Array.getD_eq_getD_getElem?, hi]
    · have : ¬ i = j := fun e => hj e.symm
      simp [Array.getD_eq_getD_getElem?, this, hj]
  unfold left
  rw [he]
  refine List.length_filter_lt_length_iff_exists.mpr ⟨i, ?_, by simp⟩
  simp only [List.mem_filter, List.mem_range, hl]
  exact ⟨h, rfl⟩

theorem wpAny_inv {P : Program} {ops : Array Oper} {Q : Exit → Act → World → Prop} {md : Region.Mode} (I : Array Bool → Act → World → Prop)
    (step : ∀ i l a w, i ∈ Region.ready md ops l → I l a w → wpOp P ops Q i (I (l.setIfInBounds i true)) a w)
    (fin : ∀ l a w, Region.ready md ops l = [] → I l a w → Q .normal a w) :
    ∀ (fuel : Nat) (l : Array Bool) (a : Act) (w : World), left ops l ≤ fuel → I l a w → wpAny P md ops Q fuel l a w := by
  intro fuel
  induction fuel with
  | zero =>
    intro l a w h hI
    have hr : Region.ready md ops l = [] := by
      refine List.eq_nil_iff_forall_not_mem.mpr ?_
      intro i hi
      have := ready_left hi
      have := left_set this.1 this.2
      omega
    exact ⟨hr, fin l a w hr hI⟩
  | succ fuel ih =>
    intro l a w h hI
    refine ⟨fun hr => fin l a w hr hI, ?_⟩
    intro i hi
    have hl := ready_left hi
    have := left_set hl.1 hl.2
    exact wpOp_mono (fun a w h' => ih _ a w (by omega) h') (step i l a w hi hI)

theorem left_start (ops : Array Oper) (l : Array Bool) : left ops l ≤ ops.size := by
  unfold left
  refine Nat.le_trans (List.length_filter_le _ _) ?_
  simp

/-- A region that draws its order, by an invariant. -/
theorem region_inv {P : Program} {ops : Array Oper} {Q : Exit → Act → World → Prop} {id : Nat} {a : Act} {w : World} (hm : P.follows .mixedOrders = true)
    (I : Array Bool → Act → World → Prop) (h0 : I (Array.replicate ops.size false) a { w with drawn := w.drawn + 1 })
    (step : ∀ i l a w, i ∈ Region.ready .any ops l → I l a w → wpOp P ops Q i (I (l.setIfInBounds i true)) a w)
    (fin : ∀ l a w, Region.ready .any ops l = [] → I l a w → Q .normal a w) :
    (Code.region id ops true).wp P Q a w :=
  wp_region_any hm (wpAny_inv I step fin _ _ _ _ (left_start _ _) h0)

end Go.Proofs.Ytdpiclmjdcjajaa
