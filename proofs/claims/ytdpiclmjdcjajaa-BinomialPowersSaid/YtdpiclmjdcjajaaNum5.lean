/-
  Plain mathematics of Lehmer's steps: which steps of Euclid's algorithm the leading limbs determine, that nothing overflows, that the greatest common divisor stays. No conditions but those of each lemma.
-/
namespace Go.Proofs.Ytdpiclmjdcjajaa.Num

/-- The state of the steps, where the first coefficient is not negative. -/
def Ev (P Q a b c d X Y : Int) : Prop :=
  0 ≤ a ∧ b ≤ 0 ∧ c ≤ 0 ∧ 0 ≤ d ∧ a * d - b * c = 1 ∧ X = a * P + b * Q ∧ Y = c * P + d * Q ∧ 0 ≤ X + b ∧ 0 ≤ Y + c ∧
    a ≤ 999999999 ∧ -999999999 ≤ b ∧ -999999999 ≤ c ∧ d ≤ 999999999 ∧ X ≤ 999999999999999999 ∧ Y ≤ 999999999999999999

theorem small_of_mul {u Y P : Int} (h1 : u < Y) (h2 : u * Y ≤ P) (hP : P ≤ 999999999999999999) : u ≤ 999999999 := by
  rcases (show 999999999 < u ∨ u ≤ 999999999 from by omega) with h | h
  · have h3 : (1000000000 : Int) * 1000000000 ≤ u * Y := Int.mul_le_mul (by omega) (by omega) (by omega) (by omega)
    omega
  · exact h

theorem ev_step {P Q a b c d X Y q : Int} (h : Ev P Q a b c d X Y) (hP : P ≤ 999999999999999999) (hQ : Q ≤ 999999999999999999) (h0 : 0 < Y + c)
    (h1 : q * (Y + c) ≤ X + a) (h2 : X + a < (q + 1) * (Y + c)) (h3 : q * (Y + d) ≤ X + b) :
    0 ≤ q ∧ Ev Q P d c (b - q * d) (a - q * c) Y (X - q * Y) ∧ (X - q * Y) + (a - q * c) < Y + c := by
  obtain ⟨ha, hb, hc, hd, det, hX, hY, hXb, hYc, ba, bb, bc, bd, bX, bY⟩ := h
  have hq : 0 ≤ q := by
    rcases (show q < 0 ∨ 0 ≤ q from by omega) with hneg | hpos
    · have : (q + 1) * (Y + c) ≤ 0 := Int.mul_nonpos_of_nonpos_of_nonneg (by omega) (by omega)
      omega
    · exact hpos
  have hqc : q * c ≤ 0 := Int.mul_nonpos_of_nonneg_of_nonpos hq hc
  have hqd : 0 ≤ q * d := Int.mul_nonneg hq hd
  have e1 : q * (Y + c) = q * Y + q * c := Int.mul_add ..
  have e2 : (q + 1) * (Y + c) = q * Y + q * c + Y + c := by grind
  have e3 : q * (Y + d) = q * Y + q * d := Int.mul_add ..
  have hS : (a - q * c) - (b - q * d) < Y + c := by omega
  have hr : 0 ≤ X - q * Y := by omega
  have f1 : P = -(b - q * d) * Y + d * (X - q * Y) := by grind
  have f2 : Q = (a - q * c) * Y - c * (X - q * Y) := by grind
  have g1 : 0 ≤ d * (X - q * Y) := Int.mul_nonneg hd hr
  have g2 : c * (X - q * Y) ≤ 0 := Int.mul_nonpos_of_nonpos_of_nonneg hc hr
  have k1 := small_of_mul (u := -(b - q * d)) (Y := Y) (P := P) (by omega) (by omega) hP
  have k2 := small_of_mul (u := a - q * c) (Y := Y) (P := Q) (by omega) (by omega) hQ
  refine ⟨hq, ⟨hd, hc, by omega, by omega, by grind, by omega, by grind, by omega, by omega, bd, bc, by omega, k2, bY, by omega⟩, by omega⟩

/-- What the leading limbs say of the whole numbers. -/
theorem ev_fin {P Q a b c d X Y β x y p q : Int} (h : Ev P Q a b c d X Y) (hpr : Y + d < X + b) (hβ : 0 < β) (hx : x = P * β + p) (hy : y = Q * β + q) (hp : 0 ≤ p ∧ p < β) (hq : 0 ≤ q ∧ q < β) :
    0 ≤ c * x + d * y ∧ c * x + d * y < a * x + b * y ∧ y = -c * (a * x + b * y) + a * (c * x + d * y) ∧ x = d * (a * x + b * y) - b * (c * x + d * y) := by
  obtain ⟨ha, hb, hc, hd, det, hX, hY, hXb, hYc, ba, bb, bc, bd, bX, bY⟩ := h
  have e1 : c * x + d * y = (Y + c) * β - c * (β - p) + d * q := by grind
  have e2 : a * x + b * y - (c * x + d * y) = (X + b - (Y + d)) * β + (a - c) * p - (b - d) * (β - q) := by grind
  have g1 : 0 ≤ (Y + c) * β := Int.mul_nonneg hYc (by omega)
  have g2 : c * (β - p) ≤ 0 := Int.mul_nonpos_of_nonpos_of_nonneg hc (by omega)
  have g3 : 0 ≤ d * q := Int.mul_nonneg hd hq.1
  have g4 : 1 * β ≤ (X + b - (Y + d)) * β := Int.mul_le_mul_of_nonneg_right (by omega) (by omega)
  have g5 : 0 ≤ (a - c) * p := Int.mul_nonneg (by omega) hp.1
  have g6 : (b - d) * (β - q) ≤ 0 := Int.mul_nonpos_of_nonpos_of_nonneg (by omega) (by omega)
  exact ⟨by omega, by omega, by grind, by grind⟩

theorem gcd_of_combos {x y u v a b c d a' b' c' d' : Int} (hu : u = a * x + b * y) (hv : v = c * x + d * y) (hx : x = a' * u + b' * v) (hy : y = c' * u + d' * v) : Int.gcd u v = Int.gcd x y := by
  apply Nat.dvd_antisymm
  · apply Int.dvd_gcd
    · rw [hx]; exact Int.dvd_add (Int.dvd_mul_of_dvd_right (Int.gcd_dvd_left _ _)) (Int.dvd_mul_of_dvd_right (Int.gcd_dvd_right _ _))
    · rw [hy]; exact Int.dvd_add (Int.dvd_mul_of_dvd_right (Int.gcd_dvd_left _ _)) (Int.dvd_mul_of_dvd_right (Int.gcd_dvd_right _ _))
  · apply Int.dvd_gcd
    · rw [hu]; exact Int.dvd_add (Int.dvd_mul_of_dvd_right (Int.gcd_dvd_left _ _)) (Int.dvd_mul_of_dvd_right (Int.gcd_dvd_right _ _))
    · rw [hv]; exact Int.dvd_add (Int.dvd_mul_of_dvd_right (Int.gcd_dvd_left _ _)) (Int.dvd_mul_of_dvd_right (Int.gcd_dvd_right _ _))

/-- The invariant of leadingSteps: no step yet, or some. -/
def Inv (P Q a b c d X Y : Int) : Prop :=
  (a = 1 ∧ b = 0 ∧ c = 0 ∧ d = 1 ∧ X = P ∧ Y = Q ∧ Ev P Q a b c d X Y) ∨ (Ev P Q a b c d X Y ∧ Y + d < X + b ∧ c ≤ -1) ∨ (Ev Q P b a d c X Y ∧ Y + c < X + a ∧ 1 ≤ c)

theorem inv_start {P Q : Int} (hP0 : 0 ≤ P) (hQ0 : 0 ≤ Q) (hP : P ≤ 999999999999999999) (hQ : Q ≤ 999999999999999999) : Inv P Q 1 0 0 1 P Q :=
  .inl ⟨rfl, rfl, rfl, rfl, rfl, rfl, by omega, by omega, by omega, by omega, by omega, by omega, by omega, by omega, by omega, by omega, by omega, by omega, by omega, by omega, by omega⟩

/-- The bounds that a round wants. -/
theorem inv_bounds {P Q a b c d X Y : Int} (h : Inv P Q a b c d X Y) :
    (-999999999 ≤ a ∧ a ≤ 999999999) ∧ (-999999999 ≤ b ∧ b ≤ 999999999) ∧ (-999999999 ≤ c ∧ c ≤ 999999999) ∧ (-999999999 ≤ d ∧ d ≤ 999999999) ∧ X ≤ 999999999999999999 ∧ Y ≤ 999999999999999999 ∧ 0 ≤ X ∧ 0 ≤ Y ∧
      0 ≤ X + a ∧ 0 ≤ X + b ∧ 0 ≤ Y + c ∧ 0 ≤ Y + d := by
  rcases h with ⟨_, _, _, _, _, _, h⟩ | ⟨h, _⟩ | ⟨h, _⟩ <;> (unfold Ev at h; omega)

theorem quo_facts {x y q : Int} (hy : 0 < y) (hq : q = x / y) : q * y ≤ x ∧ x < (q + 1) * y := by
  subst hq
  refine ⟨Int.ediv_mul_le _ (by omega), Int.lt_ediv_add_one_mul_self _ hy⟩

/-- A round in which the quotients agree. -/
theorem inv_step {P Q a b c d X Y q : Int} (h : Inv P Q a b c d X Y) (hP : P ≤ 999999999999999999) (hQ : Q ≤ 999999999999999999) (h0 : 0 < Y + c) (h1 : 0 < Y + d) (hq1 : q = (X + a) / (Y + c)) (hq2 : q = (X + b) / (Y + d)) :
    Inv P Q c d (a - q * c) (b - q * d) Y (X - q * Y) ∧ 0 ≤ q ∧ X - q * Y < Y ∧ (-999999999 ≤ q * c ∧ q * c ≤ 999999999) ∧ (-999999999 ≤ q * d ∧ q * d ≤ 999999999) ∧ 0 ≤ q * Y ∧ q * Y ≤ X := by
  obtain ⟨k1, k2⟩ := quo_facts h0 hq1
  obtain ⟨k3, k4⟩ := quo_facts h1 hq2
  have hb := inv_bounds h
  rcases h with ⟨ea, eb, ec, ed, _, _, h⟩ | ⟨h, hpr, hc⟩ | ⟨h, hpr, hc⟩
  · obtain ⟨g1, g2, g3⟩ := ev_step h hP hQ h0 k1 k2 k3
    have g4 : 0 ≤ q * Y := Int.mul_nonneg g1 (by omega)
    have g5 := g2
    unfold Ev at g5
    have e0 : q * c = 0 := by rw [ec, Int.mul_zero]
    refine ⟨.inr (.inr ⟨g2, by omega, by omega⟩), g1, by omega, by omega, by unfold Ev at h; omega, g4, by omega⟩
  · obtain ⟨g1, g2, g3⟩ := ev_step h hP hQ h0 k1 k2 k3
    have hq1 : 1 ≤ q := by
      rcases (show q < 1 ∨ 1 ≤ q from by omega) with h5 | h5
      · have : q = 0 := by omega
        rw [this] at k4; omega
      · exact h5
    have g4 : 0 ≤ q * Y := Int.mul_nonneg g1 (by omega)
    have g5 := g2
    unfold Ev at g5 h
    have e0 : 1 * -c ≤ q * -c := Int.mul_le_mul_of_nonneg_right hq1 (by omega)
    simp only [Int.mul_neg] at e0
    refine ⟨.inr (.inr ⟨g2, by omega, by omega⟩), g1, by omega, by omega, by omega, g4, by omega⟩
  · obtain ⟨g1, g2, g3⟩ := ev_step h hQ hP h1 k3 k4 k1
    have hq1 : 1 ≤ q := by
      rcases (show q < 1 ∨ 1 ≤ q from by omega) with h5 | h5
      · have : q = 0 := by omega
        rw [this] at k2; omega
      · exact h5
    have g4 : 0 ≤ q * Y := Int.mul_nonneg g1 (by omega)
    have g5 := g2
    unfold Ev at g5 h
    have e0 : 1 * c ≤ q * c := Int.mul_le_mul_of_nonneg_right hq1 (by omega)
    refine ⟨.inr (.inl ⟨g2, by omega, by omega⟩), g1, by omega, by omega, by omega, g4, by omega⟩

/-- What the steps give: some steps of Euclid's algorithm at once. -/
theorem lehmer_fin {P Q a b c d X Y β x y p q : Int} (h : Inv P Q a b c d X Y) (hb : b ≠ 0) (hβ : 0 < β) (hx : x = P * β + p) (hy : y = Q * β + q) (hp : 0 ≤ p ∧ p < β) (hq : 0 ≤ q ∧ q < β) :
    0 ≤ c * x + d * y ∧ c * x + d * y < a * x + b * y ∧ a * x + b * y ≤ y ∧ Int.gcd (a * x + b * y) (c * x + d * y) = Int.gcd x y := by
  rcases h with ⟨_, h0, _⟩ | ⟨h, hpr, hc⟩ | ⟨h, hpr, hc⟩
  · exact absurd h0 hb
  · obtain ⟨g1, g2, g3, g4⟩ := ev_fin h hpr hβ hx hy hp hq
    unfold Ev at h
    have g5 : 0 ≤ a * (c * x + d * y) := Int.mul_nonneg h.1 g1
    have g6 : 1 * (a * x + b * y) ≤ -c * (a * x + b * y) := Int.mul_le_mul_of_nonneg_right (by omega) (by omega)
    refine ⟨g1, g2, by omega, gcd_of_combos (a := a) (b := b) (c := c) (d := d) (a' := d) (b' := -b) (c' := -c) (d' := a) rfl rfl ?_ g3⟩
    rw [Int.neg_mul]; omega
  · obtain ⟨g1, g2, g3, g4⟩ := ev_fin h hpr hβ hy hx hq hp
    unfold Ev at h
    have e1 : d * y + c * x = c * x + d * y := Int.add_comm ..
    have e2 : b * y + a * x = a * x + b * y := Int.add_comm ..
    rw [e1] at g1 g2 g3 g4
    rw [e2] at g2 g3 g4
    have g5 : a * (c * x + d * y) ≤ 0 := Int.mul_nonpos_of_nonpos_of_nonneg (by omega) g1
    have g6 : 1 * (a * x + b * y) ≤ c * (a * x + b * y) := Int.mul_le_mul_of_nonneg_right (by omega) (by omega)
    refine ⟨g1, g2, by omega, gcd_of_combos (a := a) (b := b) (c := c) (d := d) (a' := -d) (b' := b) (c' := c) (d' := -a) rfl rfl g3 ?_⟩
    rw [Int.neg_mul]; omega

end Go.Proofs.Ytdpiclmjdcjajaa.Num
