/-
  Plain mathematics of the loop of long division. No conditions but those of each lemma.
-/
import Derived.Test.YtdpiclmjdcjajaaNum3
namespace Go.Proofs.Ytdpiclmjdcjajaa.Num

theorem factor_ge {t : Nat} (h1 : 1 ≤ t) (h2 : t < 1000000000) : 1 ≤ 1000000000 / (t + 1) ∧ 1000000000 / (t + 1) < 1000000000 ∧ 1000000000 / (t + 1) * (t + 1) ≤ 1000000000 := by
  refine ⟨(Nat.le_div_iff_mul_le (by omega)).2 (by omega), Nat.div_lt_self (by omega) (by omega), Nat.div_mul_le_self _ _⟩

/-- The divisor times the factor has as many limbs as the divisor. -/
theorem scaled_lt {b : List Nat} {m F : Nat} (hb : Cano b) (hl : b.length = m + 2) (hF : F * (nth b (m + 1) + 1) ≤ 1000000000) : F * val b < pw (m + 2) ∨ F = 0 := by
  rcases Nat.eq_zero_or_pos F with h0 | h0
  · exact .inr h0
  · left
    have e := val_take_succ' b (m + 1)
    rw [List.take_of_length_le (by omega)] at e
    have h1 := val_take_lt hb.1 (m + 1) (by omega)
    have h2 : val b < pw (m + 1) * (nth b (m + 1) + 1) := by rw [e, Nat.mul_add, Nat.mul_one]; omega
    have h3 : F * val b < F * (pw (m + 1) * (nth b (m + 1) + 1)) := (Nat.mul_lt_mul_left h0).2 h2
    have h4 : F * (pw (m + 1) * (nth b (m + 1) + 1)) = pw (m + 1) * (F * (nth b (m + 1) + 1)) := by rw [Nat.mul_left_comm]
    have h5 : pw (m + 1) * (F * (nth b (m + 1) + 1)) ≤ pw (m + 1) * 1000000000 := Nat.mul_le_mul_left _ hF
    rw [show m + 2 = (m + 1) + 1 from rfl, pw_succ, Nat.mul_comm 1000000000]
    omega

theorem scaled_len {b D : List Nat} {m F : Nat} (hb : Cano b) (hD : Cano D) (hl : b.length = m + 2) (hF : F * (nth b (m + 1) + 1) ≤ 1000000000) (hF1 : 1 ≤ F) (hv : val D = F * val b) : D.length = m + 2 := by
  have h1 : F * val b < pw (m + 2) := by rcases scaled_lt hb hl hF with h | h; exact h; omega
  have h2 := hb.pos (by omega)
  rw [hl, show m + 2 - 1 = m + 1 by omega] at h2
  have h3 : 1 * val b ≤ F * val b := Nat.mul_le_mul_right _ hF1
  have h4 := val_lt hD.1
  rcases Nat.lt_trichotomy D.length (m + 2) with h | h | h
  · have := pw_le (show D.length ≤ m + 1 by omega); omega
  · exact h
  · have h5 := hD.pos (by omega)
    have := pw_le (show m + 2 ≤ D.length - 1 by omega); omega

/-- The leading limbs are below the divisor. -/
theorem start_lt {R a b : List Nat} {m F : Nat} {Dv : Nat} (ca : Cano a) (hb : Cano b) (hl : b.length = m + 2) (hR : val R = F * val a) (hRl : R.length = a.length + 1) (hal : m + 2 ≤ a.length) (hF1 : 1 ≤ F) (hD : Dv = F * val b) :
    val (R.drop (a.length - m - 1)) < Dv := by
  have h1 := val_split R (a.length - m - 1) (by omega)
  have h2 := hb.pos (by omega)
  rw [hl, show m + 2 - 1 = m + 1 by omega] at h2
  have h3 := val_lt ca.1
  have h4 : pw a.length = pw (a.length - m - 1) * pw (m + 1) := by rw [← pw_add]; congr 1; omega
  have h5 : pw (a.length - m - 1) * val (R.drop (a.length - m - 1)) < pw (a.length - m - 1) * Dv := by
    have e1 : F * val a < F * pw a.length := (Nat.mul_lt_mul_left (by omega)).2 h3
    have e2 : F * pw a.length ≤ pw (a.length - m - 1) * Dv := by
      rw [h4, hD, Nat.mul_left_comm]
      exact Nat.mul_le_mul_left _ (Nat.mul_le_mul_left _ h2)
    omega
  exact Nat.lt_of_mul_lt_mul_left h5

/-- One window: the row is cut into what stands below it, the window, and what stands above it. -/
theorem window {R : List Nat} {i m N Dv : Nat} (hN : R.length = N) (hi : i + (m + 3) ≤ N) (hlo : Lo R) (hd : val (R.drop (i + 1)) < Dv) (hDv : Dv ≤ pw (m + 2)) :
    R = R.take i ++ (R.drop i).take (m + 3) ++ R.drop (i + (m + 3)) ∧ val (R.drop (i + (m + 3))) = 0 ∧ val ((R.drop i).take (m + 3)) < Dv * 1000000000 ∧ val R = val (R.take i) + pw i * val ((R.drop i).take (m + 3)) := by
  have e1 : (R.drop i).drop (m + 3) = R.drop (i + (m + 3)) := by rw [List.drop_drop]
  have e2 : R = R.take i ++ (R.drop i).take (m + 3) ++ R.drop (i + (m + 3)) := by
    rw [List.append_assoc, ← e1, List.take_append_drop, List.take_append_drop]
  have h1 := val_split (R.drop (i + 1)) (m + 2) (by simp; omega)
  rw [List.drop_drop, show i + 1 + (m + 2) = i + (m + 3) by omega] at h1
  have h0 : val (R.drop (i + (m + 3))) = 0 := by
    rcases Nat.eq_zero_or_pos (val (R.drop (i + (m + 3)))) with h | h
    · exact h
    · have : pw (m + 2) * 1 ≤ pw (m + 2) * val (R.drop (i + (m + 3))) := Nat.mul_le_mul_left _ h
      omega
  have h2 := val_split (R.drop i) (m + 3) (by simp; omega)
  rw [e1, h0, Nat.mul_zero, Nat.add_zero] at h2
  have h3 := val_drop R i (by omega)
  have h4 := val_split R i (by omega)
  have h5 := hlo i
  refine ⟨e2, h0, by omega, by rw [← h2]; exact h4⟩

theorem drop_mid (pre X post : List Nat) (i : Nat) (h : pre.length = i) : (pre ++ X ++ post).drop i = X ++ post := by
  rw [List.append_assoc, ← h]; simp

/-- What a round of the loop keeps. -/
theorem div_step {V0 vp vx vx' d Dv Q Q' : Nat} {i : Nat} (h : V0 = (vp + pw i * vx) + Q * Dv * pw (i + 1)) (hx : vx = d * Dv + vx') (hq : Q' = d + 1000000000 * Q) : V0 = (vp + pw i * vx') + Q' * Dv * pw i := by
  rw [h, hx, hq, pw_succ]; grind

theorem div_end {a b F R Q : Nat} (hF : 1 ≤ F) (h : F * a = R + Q * (F * b)) (hR : R < F * b) : Q = a / b ∧ R / F = a % b := by
  have hb : 0 < b := by
    rcases Nat.eq_zero_or_pos b with h0 | h0
    · rw [h0, Nat.mul_zero] at hR; omega
    · exact h0
  have h1 : F ∣ R := by
    have : R = F * a - F * (Q * b) := by rw [Nat.mul_left_comm F Q b]; omega
    rw [this]
    exact Nat.dvd_sub (Nat.dvd_mul_right F a) (Nat.dvd_mul_right F (Q * b))
  obtain ⟨r, rfl⟩ := h1
  have h2 : r < b := Nat.lt_of_mul_lt_mul_left hR
  have h3 : F * a = F * (r + Q * b) := by rw [h, Nat.mul_add, Nat.mul_left_comm]
  have h4 : a = r + Q * b := Nat.eq_of_mul_eq_mul_left hF h3
  rw [Nat.mul_div_cancel_left r hF, h4, Nat.add_mul_div_right _ _ hb, Nat.add_mul_mod_self_right, Nat.div_eq_of_lt h2, Nat.mod_eq_of_lt h2]
  omega

theorem cano_len {l : List Nat} {k : Nat} (h : Cano l) (hv : val l < pw k) : l.length ≤ k := by
  rcases Nat.lt_or_ge k l.length with h1 | h1
  · have h2 := h.pos (by omega)
    have := pw_le (show k ≤ l.length - 1 by omega); omega
  · exact h1

theorem lo_append {a b : List Nat} (ha : Lo a) (hb : Lo b) : Lo (a ++ b) := fun i => by
  rcases Nat.lt_or_ge i a.length with h | h
  · rw [nth_append_left _ _ _ h]; exact ha i
  · obtain ⟨k, rfl⟩ : ∃ k, i = a.length + k := ⟨i - a.length, by omega⟩
    rw [nth_append_right]; exact hb k

theorem val_tail (X : List Nat) {post : List Nat} (h : val post = 0) : val (X ++ post) = val X := by
  rw [val_append, h, Nat.mul_zero, Nat.add_zero]

theorem val_mid {pre : List Nat} (X : List Nat) {post : List Nat} {i : Nat} (hp : pre.length = i) (h : val post = 0) : val (pre ++ X ++ post) = val pre + pw i * val X := by
  rw [List.append_assoc, val_append, val_tail X h, hp]

theorem set_drop_val (Q : List Nat) (i d : Nat) (h : i < Q.length) : val ((Q.set i d).drop i) = d + 1000000000 * val (Q.drop (i + 1)) := by
  rw [drop_cons _ _ (by simpa using h), nth_set _ _ _ _ h, if_pos rfl, drop_set_gt]; rfl

end Go.Proofs.Ytdpiclmjdcjajaa.Num
