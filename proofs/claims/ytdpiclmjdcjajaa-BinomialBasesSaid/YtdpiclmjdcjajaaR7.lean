/-
  The walk of Cmp: at most 20000 limbs.
-/
import Derived.Test.YtdpiclmjdcjajaaCross
import Derived.Deep.CutBlock
namespace Go.Proofs.Ytdpiclmjdcjajaa
open Go.RowKit Num

theorem keep6 {W0 W : World} {B B' g g' t t' : Nat} {x y z x' y' z' : Value} (hb : BoxV W0 B g t [x, y, z]) (hb' : BoxV W0 B' g' t' [x', y', z']) (h : Below W0.heap.size W0 W) :
    W.cell? ⟨g, 0, none⟩ = some x ∧ W.cell? ⟨g, 1, none⟩ = some y ∧ W.cell? ⟨g, 2, none⟩ = some z ∧ W.cell? ⟨g', 0, none⟩ = some x' ∧ W.cell? ⟨g', 1, none⟩ = some y' ∧ W.cell? ⟨g', 2, none⟩ = some z' ∧ Below W0.heap.size W0 W := by
  obtain ⟨⟨k0, k1, k2⟩, _⟩ := (hb.below h).three
  obtain ⟨⟨m0, m1, m2⟩, _⟩ := (hb'.below h).three
  exact ⟨k0, k1, k2, m0, m1, m2, h⟩

theorem quo_mk {a b : Int} (hb : 1 ≤ b) : quo a b = mkRat a b.natAbs := by
  unfold quo rat
  have : ¬ b < 0 := by omega
  by_cases h : a < 0
  · simp only [h, this, decide_true, decide_false]
    congr 1
    simp
    omega
  · simp only [h, this, decide_false]
    congr 1
    simp
    omega

theorem cmpQ_quo {a b c d : Int} (hb : 1 ≤ b) (hd : 1 ≤ d) : cmpI (a * d) (c * b) = cmpQ (quo a b) (quo c d) := by
  rw [quo_mk hb, quo_mk hd, cmpQ_cross _ _ (by omega) (by omega)]
  have h1 : ((b.natAbs : Nat) : Int) = b := by omega
  have h2 : ((d.natAbs : Nat) : Int) = d := by omega
  rw [h1, h2]

theorem wrap_in {x : Int} (h1 : -9223372036854775808 ≤ x) (h2 : x ≤ 9223372036854775807) : IntKind.i64.wrap x = x := by
  have e : (2 : Int) ^ 64 = 18446744073709551616 := by decide
  simp only [IntKind.wrap, IntKind.bits, IntKind.signed, e]
  have e' : (2 : Int) ^ (64 - 1) = 9223372036854775808 := by decide
  simp only [e', Bool.true_and, decide_eq_true_eq]
  split <;> omega

theorem wrap_cmpQ (p q : Rat) : IntKind.i64.wrap (cmpQ p q) = cmpQ p q := by
  refine wrap_in ?_ ?_ <;> (unfold cmpQ; split <;> (try split) <;> omega)

theorem small_prod {a d : Int} (h1 : -999999999 ≤ a) (h2 : a ≤ 999999999) (h3 : 1 ≤ d) (h4 : d ≤ 999999999) : IntKind.i64.wrap (a * d) = a * d := by
  have k1 : a * d ≤ 999999999 * 999999999 := Int.le_trans (Int.mul_le_mul_of_nonneg_right h2 (by omega)) (Int.mul_le_mul_of_nonneg_left h4 (by omega))
  have k2 : (-999999999) * d ≤ a * d := Int.mul_le_mul_of_nonneg_right h1 (by omega)
  generalize a * d = x at *
  have k3 : -999999999 * 999999999 ≤ x := by omega
  exact wrap_in (by omega) (by omega)

end Go.Proofs.Ytdpiclmjdcjajaa
