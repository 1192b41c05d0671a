/-
  Plain mathematics for the walks of the natural numbers: steps of addition, subtraction, multiplication, division by one limb. No conditions but those of each lemma.
-/
import Derived.Test.YtdpiclmjdcjajaaNum
namespace Go.Proofs.Ytdpiclmjdcjajaa.Num

theorem val_take_succ' (l : List Nat) (i : Nat) : val (l.take (i + 1)) = val (l.take i) + pw i * nth l i := by
  by_cases h : i < l.length
  · exact val_take_succ l i h
  · rw [nth_out (by omega), List.take_of_length_le (by omega), List.take_of_length_le (by omega)]; omega

theorem pw_three : pw 3 = 1000000000000000000000000000 := by decide

theorem len_small {k q n : Nat} (h : pw k * q ≤ n) (hq : 0 < q) (hn : n < 18446744073709551616) : k ≤ 2 := by
  rcases Nat.lt_or_ge k 3 with h3 | h3
  · omega
  · have h1 := pw_le h3
    have h2 : pw k * 1 ≤ pw k * q := Nat.mul_le_mul_left _ hq
    rw [pw_three] at h1
    omega

/-- One limb more at the end. -/
theorem snoc_step (L : List Nat) (q : Nat) : val (L ++ [q % 1000000000]) + pw (L.length + 1) * (q / 1000000000) = val L + pw L.length * q := by
  rw [val_append, pw_succ]
  have := Nat.div_add_mod q 1000000000
  have e : pw L.length * q = 1000000000 * pw L.length * (q / 1000000000) + pw L.length * (q % 1000000000) := by
    rw [Nat.mul_comm 1000000000 (pw _), Nat.mul_assoc, ← Nat.mul_add, this]
  simp [val]; omega

theorem lo_snoc {L : List Nat} (h : Lo L) {x : Nat} (hx : x < 1000000000) : Lo (L ++ [x]) := fun i => by
  rcases Nat.lt_trichotomy i L.length with h1 | h1 | h1
  · rw [nth_append_left _ _ _ h1]; exact h i
  · have := nth_append_right L [x] 0
    rw [Nat.add_zero] at this
    rw [h1, this]; exact hx
  · rw [nth_out (by simp; omega)]; omega

theorem cano_snoc {L : List Nat} (h : Lo L) {x : Nat} (hx : x < 1000000000) (h0 : x ≠ 0) : Cano (L ++ [x]) := by
  refine ⟨lo_snoc h hx, .inr ?_⟩
  have := nth_append_right L [x] 0
  rw [Nat.add_zero] at this
  rw [show (L ++ [x]).length - 1 = L.length by simp, this]; exact h0

theorem mulimb_step (L l : List Nat) (k c m : Nat) (hk : k < L.length) (h : val (L.take k) + pw k * c = m * val (l.take k)) :
    val ((L.set k ((c + nth l k * m) % 1000000000)).take (k + 1)) + pw (k + 1) * ((c + nth l k * m) / 1000000000) = m * val (l.take (k + 1)) := by
  refine carry_step L k _ _ hk ?_
  rw [val_take_succ', Nat.mul_add, Nat.mul_add, ← Nat.add_assoc, h]
  congr 1
  grind

theorem add_step (L a b : List Nat) (k c : Nat) (hk : k < L.length) (h : val (L.take k) + pw k * c = val (a.take k) + val (b.take k)) :
    val ((L.set k ((nth a k + c + nth b k) % 1000000000)).take (k + 1)) + pw (k + 1) * ((nth a k + c + nth b k) / 1000000000) = val (a.take (k + 1)) + val (b.take (k + 1)) := by
  refine carry_step L k _ _ hk ?_
  rw [val_take_succ', val_take_succ', Nat.mul_add, Nat.mul_add]; omega

/-- A borrow: the limbs so far, and the borrow, make the difference. -/
theorem sub_step (L a b : List Nat) (k c c' x : Nat) (hk : k < L.length) (h : val (L.take k) + val (b.take k) = val (a.take k) + pw k * c)
    (hx : x + (nth b k + c) = nth a k + c' * 1000000000) :
    val ((L.set k x).take (k + 1)) + val (b.take (k + 1)) = val (a.take (k + 1)) + pw (k + 1) * c' := by
  rw [val_set_take L k x hk, val_take_succ', val_take_succ', pw_succ]
  have e : pw k * (x + (nth b k + c)) = pw k * (nth a k + c' * 1000000000) := by rw [hx]
  rw [Nat.mul_add, Nat.mul_add, Nat.mul_add] at e
  have e2 : pw k * (c' * 1000000000) = 1000000000 * pw k * c' := by
    rw [Nat.mul_comm c', ← Nat.mul_assoc, Nat.mul_comm (pw k)]
  omega

/-- Division by one limb from the top: what has been divided. -/
theorem divlimb_step (L l : List Nat) (j c r x : Nat) (hj : j < L.length) (hl : j < l.length) (h : val (l.drop (j + 1)) = c * val (L.drop (j + 1)) + r)
    (hx : x = (r * 1000000000 + nth l j) / c) :
    val (l.drop j) = c * val ((L.set j x).drop j) + (r * 1000000000 + nth l j) % c := by
  have e1 : (L.set j x).drop j = x :: L.drop (j + 1) := by
    rw [drop_cons _ _ (by simpa using hj), nth_set _ _ _ _ hj, if_pos rfl, List.drop_set_of_lt (by omega)]
  rw [val_drop l j hl, h, e1]
  have e2 := Nat.div_add_mod (r * 1000000000 + nth l j) c
  rw [← hx] at e2
  have e3 : c * val (x :: L.drop (j + 1)) = c * x + 1000000000 * (c * val (L.drop (j + 1))) := by
    simp only [val, Nat.mul_add]; rw [Nat.mul_left_comm]
  omega

theorem lo_set_drop {L : List Nat} {j x : Nat} (hj : j < L.length) (h : Lo L) (hx : x < 1000000000) : Lo (L.set j x) := fun i => by
  rw [nth_set _ _ _ _ hj]; split; exact hx; exact h i

theorem lo_replicate (n : Nat) : Lo (List.replicate n 0) := fun i => by rw [nth_replicate]; omega

theorem quo_lt {r c x : Nat} (hr : r < c) (hx : x < 1000000000) : (r * 1000000000 + x) / c < 1000000000 := by
  rw [Nat.div_lt_iff_lt_mul (by omega)]
  have : (r + 1) * 1000000000 ≤ c * 1000000000 := Nat.mul_le_mul_right _ hr
  rw [Nat.mul_comm 1000000000 c]; omega

/-- One step of the inner loop of a product. -/
theorem mul_step (L L0 y : List Nat) (i j c a : Nat) (hk : i + j < L.length) (h : val (L.take (i + j)) + pw (i + j) * c = val (L0.take (i + j)) + pw i * (a * val (y.take j))) (he : nth L (i + j) = nth L0 (i + j)) :
    val ((L.set (i + j) ((c + (nth L (i + j) + a * nth y j)) % 1000000000)).take (i + j + 1)) + pw (i + j + 1) * ((c + (nth L (i + j) + a * nth y j)) / 1000000000) = val (L0.take (i + j + 1)) + pw i * (a * val (y.take (j + 1))) := by
  refine carry_step L (i + j) _ _ hk ?_
  rw [val_take_succ' L0, val_take_succ' y, ← he, pw_add] at *
  grind

/-- The end of the inner loop: the carry is stored. -/
theorem mul_end (L L0 x y : List Nat) (i c : Nat) (hk : i + y.length < L.length) (h : val (L.take (i + y.length)) + pw (i + y.length) * c = val (L0.take (i + y.length)) + pw i * (nth x i * val (y.take y.length)))
    (h0 : val (L0.take (i + y.length)) = val (x.take i) * val y) : val ((L.set (i + y.length) c).take (i + y.length + 1)) = val (x.take (i + 1)) * val y := by
  rw [val_set_take L _ c hk, h, List.take_length, h0, val_take_succ', Nat.add_mul, Nat.mul_assoc]

theorem mul_bound {a b c d : Nat} (ha : a < 1000000000) (hb : b < 1000000000) (hc : c < 1000000000) (hd : d < 1000000000) : c + (d + a * b) < 1000000000000000000 := by
  have : a * b ≤ 999999999 * 999999999 := Nat.mul_le_mul (by omega) (by omega)
  omega

theorem val_ge_drop (l : List Nat) (j : Nat) (h : j ≤ l.length) : val (l.drop j) ≤ val l := by
  have := val_split l j h
  have h2 : 1 * val (l.drop j) ≤ pw j * val (l.drop j) := Nat.mul_le_mul_right _ (pw_pos j)
  omega

end Go.Proofs.Ytdpiclmjdcjajaa.Num
