/-
  Plain mathematics of long division: Knuth's guess, the step that subtracts a multiple, a stretch within a row. No conditions but those of each lemma.
-/
import Derived.Test.YtdpiclmjdcjajaaNum2
namespace Go.Proofs.Ytdpiclmjdcjajaa.Num

theorem nth_mid (pre X post : List Nat) (i : Nat) (h : i < X.length) : nth (pre ++ X ++ post) (pre.length + i) = nth X i := by
  rw [nth_append_left _ _ _ (by simp; omega), nth_append_right]

theorem set_mid (pre X post : List Nat) (i x : Nat) (h : i < X.length) : (pre ++ X ++ post).set (pre.length + i) x = pre ++ X.set i x ++ post := by
  apply ext_nth (by simp)
  intro j hj
  rw [nth_set _ _ _ _ (by simp; omega)]
  simp only [List.length_set, List.length_append] at hj
  rcases Nat.lt_or_ge j pre.length with h1 | h1
  · rw [if_neg (by omega), List.append_assoc, List.append_assoc, nth_append_left _ _ _ h1, nth_append_left _ _ _ h1]
  · obtain ⟨k, rfl⟩ : ∃ k, j = pre.length + k := ⟨j - pre.length, by omega⟩
    rcases Nat.lt_or_ge k X.length with h2 | h2
    · rw [nth_mid _ _ _ _ h2, nth_mid _ _ _ _ (by simpa using h2), nth_set _ _ _ _ h]
      by_cases e : k = i
      · rw [if_pos (by omega), if_pos e]
      · rw [if_neg (by omega), if_neg e]
    · obtain ⟨m, rfl⟩ : ∃ m, k = X.length + m := ⟨k - X.length, by omega⟩
      have e1 : pre.length + (X.length + m) = (pre ++ X).length + m := by simp; omega
      have e2 : pre.length + (X.length + m) = (pre ++ X.set i x).length + m := by simp; omega
      rw [if_neg (by omega)]
      conv => lhs; rw [e1, nth_append_right]
      rw [e2, nth_append_right]

theorem drop_set_gt (X : List Nat) (k x : Nat) : (X.set k x).drop (k + 1) = X.drop (k + 1) := List.drop_set_of_lt (by omega)

/-- Giving the divisor back: one step. -/
theorem give_step (X X0 D : List Nat) (k c : Nat) (hk : k < X.length) (h : val (X.take k) + pw k * c = val (X0.take k) + val (D.take k)) (he : nth X k = nth X0 k) :
    val ((X.set k ((nth X k + nth D k + c) % 1000000000)).take (k + 1)) + pw (k + 1) * ((nth X k + nth D k + c) / 1000000000) = val (X0.take (k + 1)) + val (D.take (k + 1)) := by
  refine carry_step X k _ _ hk ?_
  rw [val_take_succ', val_take_succ', he, Nat.mul_add, Nat.mul_add]; omega

/-- Subtracting a multiple: one step. -/
theorem mulsub_step (X X0 D : List Nat) (k G b z u : Nat) (hk : k < X.length) (h : val (X.take k) + G * val (D.take k) = val (X0.take k) + pw k * b) (he : nth X k = nth X0 k)
    (hz : z + (b + G * nth D k) % 1000000000 = nth X k + u * 1000000000) :
    val ((X.set k z).take (k + 1)) + G * val (D.take (k + 1)) = val (X0.take (k + 1)) + pw (k + 1) * ((b + G * nth D k) / 1000000000 + u) := by
  rw [val_set_take X k z hk, val_take_succ', val_take_succ', pw_succ, ← he]
  have e := Nat.div_add_mod (b + G * nth D k) 1000000000
  generalize (b + G * nth D k) / 1000000000 = tq at *
  generalize (b + G * nth D k) % 1000000000 = tr at *
  have e1 : pw k * (z + (b + G * nth D k)) = pw k * (nth X k + 1000000000 * (tq + u)) := by congr 1; omega
  grind

theorem knuth_up {D V d0 x0 b s f x2 T G r q : Nat} (hD : D = d0 + b * (s + 1000000000 * f)) (hV : V = x0 + b * (x2 + 1000000000 * T)) (hx : x0 < b) (hT : T = G * f + r) (hq : q * D ≤ V)
    (h : r * 1000000000 + x2 < G * s) : q < G := by
  rcases Nat.lt_or_ge q G with h1 | h1
  · exact h1
  · exfalso
    have h2 : G * D ≤ q * D := Nat.mul_le_mul_right _ h1
    have h3 : G * D = G * d0 + b * (G * s + 1000000000 * (G * f)) := by rw [hD]; grind
    have h4 : b * (G * s + 1000000000 * (G * f)) < b * (x2 + 1000000000 * T + 1) := by rw [Nat.mul_add b _ 1]; omega
    have h5 := Nat.lt_of_mul_lt_mul_left h4
    omega

theorem knuth_down {D V d0 x0 b s f x2 T G r : Nat} (hD : D = d0 + b * (s + 1000000000 * f)) (hV : V = x0 + b * (x2 + 1000000000 * T)) (hd : d0 < b) (hf : 1 ≤ f) (hT : T = G * f + r) (hG : G < 1000000000)
    (h : G * s ≤ r * 1000000000 + x2) : G ≤ V / D + 1 := by
  rcases Nat.eq_zero_or_pos G with h0 | h0
  · rw [h0]; exact Nat.zero_le _
  · obtain ⟨H, rfl⟩ : ∃ H, G = H + 1 := ⟨G - 1, by omega⟩
    have hDp : 0 < D := by
      have : b * 1 ≤ b * (s + 1000000000 * f) := Nat.mul_le_mul_left _ (by omega)
      omega
    have h1 : H ≤ V / D := by
      rw [Nat.le_div_iff_mul_le hDp]
      have e1 : (H + 1) * D = (H + 1) * d0 + b * ((H + 1) * s + 1000000000 * ((H + 1) * f)) := by rw [hD]; grind
      have e2 : (H + 1) * D = H * D + D := by rw [Nat.add_mul, Nat.one_mul]
      have e3 : b * ((H + 1) * s + 1000000000 * ((H + 1) * f)) ≤ b * (x2 + 1000000000 * T) := Nat.mul_le_mul_left _ (by omega)
      have e4 : (H + 1) * d0 ≤ 1000000000 * b := Nat.mul_le_mul (by omega) (by omega)
      have e5 : b * (1000000000 * 1) ≤ b * (s + 1000000000 * f) := Nat.mul_le_mul_left _ (by omega)
      omega
    exact Nat.succ_le_succ h1

theorem knuth_rest {G s r x2 : Nat} (hG : G < 1000000000) (hs : s < 1000000000) (hr : 1000000000 ≤ r) : G * s ≤ r * 1000000000 + x2 := by
  have : G * s ≤ 999999999 * 999999999 := Nat.mul_le_mul (by omega) (by omega)
  omega

theorem knuth_init {D V d0 x0 b s f x2 T : Nat} (hD : D = d0 + b * (s + 1000000000 * f)) (hV : V = x0 + b * (x2 + 1000000000 * T)) (hx : x0 < b) (hx2 : x2 < 1000000000) (hf : 1 ≤ f) : V / D ≤ T / f := by
  rw [Nat.le_div_iff_mul_le hf]
  have h1 := Nat.div_mul_le_self V D
  generalize V / D = q at *
  have h2 : q * D = q * d0 + b * (q * s) + 1000000000 * (b * (q * f)) := by rw [hD]; grind
  have h3 : b * (x2 + 1000000000 * T) = b * x2 + 1000000000 * (b * T) := by grind
  have h4 : b * x2 ≤ b * 999999999 := Nat.mul_le_mul_left _ (by omega)
  have h5 : b * (q * f) < b * (T + 1) := by rw [Nat.mul_add b T 1]; omega
  have := Nat.lt_of_mul_lt_mul_left h5
  omega

theorem quo_small {V D : Nat} (h : V < D * 1000000000) : V / D ≤ 999999999 := by
  have : V / D < 1000000000 := Nat.div_lt_of_lt_mul h
  omega

/-- What stands after the multiple was subtracted: the guess was right, or one too great. -/
theorem tm_right {A D Vlo V p b xn G : Nat} (hA : A < p) (hD : D ≤ p) (hD0 : 0 < D) (hV : V = Vlo + p * xn) (h : A + G * D = Vlo + p * b) (hG : G = V / D) : b = xn ∧ A = V % D := by
  have e1 := Nat.div_add_mod V D
  have e2 := Nat.mod_lt V hD0
  rw [← hG] at e1
  rw [Nat.mul_comm] at e1
  rcases Nat.lt_trichotomy b xn with h1 | h1 | h1
  · have : p * (b + 1) ≤ p * xn := Nat.mul_le_mul_left _ h1
    rw [Nat.mul_add] at this; omega
  · subst h1; omega
  · have : p * (xn + 1) ≤ p * b := Nat.mul_le_mul_left _ h1
    rw [Nat.mul_add] at this; omega

theorem tm_over {A D Vlo V p b xn G : Nat} (hA : A < p) (hD : D ≤ p) (hD0 : 0 < D) (hV : V = Vlo + p * xn) (h : A + G * D = Vlo + p * b) (hG : G = V / D + 1) : xn < b ∧ A + D = V % D + p := by
  have e1 := Nat.div_add_mod V D
  have e2 := Nat.mod_lt V hD0
  rw [hG, Nat.add_mul, Nat.mul_comm (V / D)] at h
  rcases Nat.lt_trichotomy b (xn + 1) with h1 | h1 | h1
  · have : p * b ≤ p * xn := Nat.mul_le_mul_left _ (by omega)
    omega
  · subst h1; rw [Nat.mul_add] at h; omega
  · have : p * (xn + 1 + 1) ≤ p * b := Nat.mul_le_mul_left _ h1
    rw [Nat.mul_add, Nat.mul_add] at this; omega

/-- The two leading limbs of a list of m + 2, the three of one of m + 3. -/
theorem top_two (D : List Nat) (m : Nat) (h : D.length = m + 2) : val D = val (D.take m) + pw m * (nth D m + 1000000000 * nth D (m + 1)) := by
  have := val_split D m (by omega)
  rw [val_drop D m (by omega), val_drop D (m + 1) (by omega), List.drop_of_length_le (by omega)] at this
  simpa [val] using this
theorem top_three (X : List Nat) (m : Nat) (h : X.length = m + 3) : val X = val (X.take m) + pw m * (nth X m + 1000000000 * (nth X (m + 2) * 1000000000 + nth X (m + 1))) := by
  have := val_split X m (by omega)
  rw [val_drop X m (by omega), val_drop X (m + 1) (by omega), val_drop X (m + 2) (by omega), List.drop_of_length_le (by omega)] at this
  rw [this]; congr 2; simp [val]; omega

end Go.Proofs.Ytdpiclmjdcjajaa.Num
