/-
  The walks of Abs, Integral, Floor and Ceil.
-/
import Derived.Test.YtdpiclmjdcjajaaFlow3
namespace Go.Proofs.Ytdpiclmjdcjajaa
open Go.RowKit Num

theorem den_one_iff {neg : Bool} {n d : Nat} (hd : 0 < d) : (rat neg n d).den = 1 ↔ n % d = 0 := by
  rw [rat_den neg n d hd]
  have hg : 0 < Nat.gcd n d := Nat.gcd_pos_of_pos_right _ hd
  constructor
  · intro h
    have h1 : Nat.gcd n d = d := by
      have h2 := Nat.div_mul_cancel (Nat.gcd_dvd_right n d)
      rw [h, Nat.one_mul] at h2
      exact h2
    exact Nat.mod_eq_zero_of_dvd (h1 ▸ Nat.gcd_dvd_left n d)
  · intro h
    have h1 : Nat.gcd n d = d := Nat.gcd_eq_right (Nat.dvd_of_mod_eq_zero h)
    rw [h1]
    exact Nat.div_self hd

theorem floor_mk (z : Int) {d : Nat} (hd : 0 < d) : (mkRat z d).floor = z / (d : Int) := by
  obtain ⟨m, hm, h1, h2⟩ := mk_facts z d (by omega)
  rw [Rat.floor_def]
  generalize mkRat z d = p at *
  rw [h1, h2, Int.natCast_mul]
  rw [Int.mul_ediv_mul_of_pos_left _ _ (by omega)]

theorem neg_div (n d : Nat) (hd : 0 < d) : -(n : Int) / (d : Int) = if n % d = 0 then -((n / d : Nat) : Int) else -((n / d + 1 : Nat) : Int) := by
  have h := Nat.div_add_mod n d
  have hr := Nat.mod_lt n hd
  generalize n / d = k at *
  generalize n % d = r at *
  have e : -(n : Int) = (d : Int) * (-(k : Int)) + (-(r : Int)) := by
    rw [← h, Int.natCast_add, Int.natCast_mul, Int.mul_neg]
    omega
  split
  · rename_i hr0
    subst hr0
    rw [e, Int.natCast_zero, Int.neg_zero, Int.add_zero, Int.mul_ediv_cancel_left _ (by omega)]
  · have e2 : -(n : Int) = (d - r : Int) + (d : Int) * (-((k + 1 : Nat) : Int)) := by
      rw [e, Int.natCast_add, Int.neg_add, Int.mul_add]
      omega
    rw [e2, Int.add_mul_ediv_left _ _ (by omega), Int.ediv_eq_zero_of_lt (by omega) (by omega)]
    omega

theorem floor_rat (neg : Bool) (n d : Nat) (hd : 0 < d) : ((rat neg n d).floor : Rat) = rat neg (if neg = true ∧ n % d ≠ 0 then n / d + 1 else n / d) 1 := by
  unfold rat
  rw [floor_mk _ hd]
  cases neg
  · simp only [Bool.false_eq_true, if_false, false_and]
    rw [← Int.natCast_ediv]
    exact (Rat.mkRat_one _).symm
  · simp only [if_true, true_and]
    rw [neg_div n d hd]
    by_cases h : n % d = 0
    · rw [if_pos h, if_neg (by omega)]
      exact (Rat.mkRat_one _).symm
    · rw [if_neg h, if_pos h]
      exact (Rat.mkRat_one _).symm

theorem rat_nonneg (n d : Nat) : 0 ≤ rat false n d := by
  rw [← Rat.num_nonneg]
  unfold rat
  rw [Rat.num_mkRat]
  split
  · exact Int.le_refl _
  · exact Int.ediv_nonneg (by simp) (by simp)
theorem abs_rat (neg : Bool) (n d : Nat) : rat false n d = (rat neg n d).abs := by
  cases neg
  · exact (Rat.abs_of_nonneg (rat_nonneg n d)).symm
  · have e : rat true n d = - rat false n d := rat_not false n d
    rw [e, Rat.abs_neg]
    exact (Rat.abs_of_nonneg (rat_nonneg n d)).symm
theorem RatV.abs {w W : World} {neg : Bool} {an ad : Option Addr} {n cn m cd k : Nat} {q : Rat} (h : RatV w neg an n cn ad m cd k q) (hW : Below w.heap.size w W) : RatA W (.agg #[.bool false, .slice an n cn, .slice ad m cd]) k q.abs := by
  obtain ⟨l1, l2, e1, e2, h1, h2, k1, k2, e⟩ := h.below hW
  refine RatV.a ⟨l1, l2, e1, e2, h1, h2, k1, k2, ?_⟩
  rw [e, abs_rat neg]

def IntegralP (q : Rat) (w : World) (e : Ending) (w' : World) : Prop := e = .returned (.bool (decide (q.den = 1))) ∧ Below w.heap.size w w'

theorem nt_len {w : World} {a : Option Addr} {n c x : Nat} (h : Nt w (.slice a n c) x) : n = 0 ↔ x = 0 := by
  obtain ⟨l, ⟨a', c', e, _⟩, c, hv⟩ := h
  simp only [Value.slice.injEq] at e
  rw [e.2.1, ← hv]; exact c.zero.symm

/-- The last part of Floor: a whole number with a sign. -/
theorem whole_c {w : World} {neg : Bool} {qa : Option Addr} {ql qc m k g : Nat} (h : Nt w (.slice qa ql qc) m) (h1 : w.cell? ⟨g, 0, none⟩ = some (.int .u32 1)) (hm : m < pw k) (hk : k ≤ 100000) (hk1 : 1 ≤ k) :
    Calls Try.prog 52 #[.agg #[.bool neg, .slice qa ql qc, .slice (some ⟨g, 0, none⟩) 1 1]] w (RatP (rat neg m 1) w) := by
  have h1k : 1 < pw k := by have := pw_le hk1; have e : pw 1 = 1000000000 := rfl; omega
  exact canonical_any neg qa _ ql qc 1 1 m 1 k w h (lim_one h1) (by omega) hm h1k hk

/-- The least whole number from q on. -/
def ceilQ (q : Rat) : Rat := -(((-q).floor : Int) : Rat)

theorem sz_floor {q : Rat} {k : Nat} (h : Sz q k) : Sz (q.floor : Rat) (k + 1) := by
  have hk := sz_pos h
  have h1 : 1 < pw k := by have := pw_le hk; have e : pw 1 = 1000000000 := rfl; omega
  have hs := pw_succ k
  have hq := rat_self q
  have hf := floor_rat (decide (q.num < 0)) q.num.natAbs q.den q.den_pos
  rw [hq] at hf
  rw [hf]
  refine sz_rat ?_ (by omega) (by omega)
  have hd := Nat.div_le_self q.num.natAbs q.den
  have hn := h.1
  split <;> omega

theorem sz_ceil {q : Rat} {k : Nat} (h : Sz q k) : Sz (ceilQ q) (k + 1) := sz_neg (sz_floor (sz_neg h))

section
variable {κ : Tmp → Kd} {G : Nat → Option Tmp} {d t u c : Tmp} {ty : TypeId} {pos : String} {es : Array Edge} {g : Option (Nat × Bool)} {k1 k2 : Nat} {p q : Rat}
end

end Go.Proofs.Ytdpiclmjdcjajaa
