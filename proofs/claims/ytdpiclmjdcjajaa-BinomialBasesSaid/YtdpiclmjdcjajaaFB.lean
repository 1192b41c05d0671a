/-
  Shifted polynomials, differences, powers, and numbers that a common denominator makes whole. No conditions: plain identities between rational numbers.
-/
import Derived.Test.YtdpiclmjdcjajaaFA
namespace Go.Proofs.Ytdpiclmjdcjajaa
open Go.RowKit Num

theorem rz_zero (n : Rat) : rz n 0 = 1 := rfl

/-- The value of the first m coefficients at x. -/
def evR (f : Nat → Rat) (m : Nat) (x : Rat) : Rat := sumN (fun k => f k * rz x k) m
/-- The coefficients of the shifted polynomial. -/
def shC (f : Nat → Rat) (m : Nat) (c : Rat) (j : Nat) : Rat := sumN (fun i => f (j + i) * rz c i) (m - j)
theorem evR_next (f : Nat → Rat) (m : Nat) (x : Rat) : evR f (m + 1) (x + 1) = evR f (m + 1) x + evR (fun i => f (i + 1)) m x :=
  sumN_shift (C := fun k => rz x k) (D := fun k => rz (x + 1) k) ((rz_zero _).trans (rz_zero _).symm) (fun k => rz_pascal x k) f m
def cv (c d : Rat) (k : Nat) : Rat := sumN (fun i => rz c i * rz d (k - i)) (k + 1)
theorem sumN_front (f : Nat → Rat) : ∀ m, sumN f (m + 1) = f 0 + sumN (fun i => f (i + 1)) m
  | 0 => by show (0 : Rat) + f 0 = f 0 + 0; grind
  | m + 1 => by
    show sumN f (m + 1) + f (m + 1) = f 0 + (sumN (fun i => f (i + 1)) m + f (m + 1))
    rw [sumN_front f m]
    grind
theorem pos_ne (k : Nat) : ((k : Rat) + 1) ≠ 0 := pos1 k
/-- Times (n - k) / (k + 1), in the powers. -/
def tk (k : Nat) (a : Nat → Rat) : Nat → Rat := fun i => (if i = 0 then 0 else a (i - 1)) / ((k : Rat) + 1) - (k : Rat) * a i / ((k : Rat) + 1)
theorem tk_comm (k l : Nat) (a : Nat → Rat) : tk k (tk l a) = tk l (tk k a) := by
  funext i
  have h1 := pos_ne k
  have h2 := pos_ne l
  unfold tk
  match i with
  | 0 => simp; grind
  | 1 => simp; grind
  | i + 2 => simp; grind
def e0 : Nat → Rat := fun i => if i = 0 then 1 else 0
/-- The row of C(n, k) in the powers. -/
def rowC : Nat → Nat → Rat
  | 0 => e0
  | k + 1 => tk k (rowC k)
/-- The nested sum from p[k] on, over d elements. -/
def nst (T : Nat → (Nat → Rat) → Nat → Rat) (p : Nat → Rat) : Nat → Nat → Nat → Rat
  | _, 0 => fun _ => 0
  | k, d + 1 => fun i => (if i = 0 then p k else 0) + T k (nst T p (k + 1) d) i
theorem tk_add (k : Nat) (a b : Nat → Rat) : tk k (fun i => a i + b i) = fun i => tk k a i + tk k b i := by
  funext i
  have h1 := pos_ne k
  unfold tk
  match i with
  | 0 => simp; grind
  | i + 1 => simp; grind
theorem tk_mul (k : Nat) (c : Rat) (a : Nat → Rat) : tk k (fun i => c * a i) = fun i => c * tk k a i := by
  funext i
  have h1 := pos_ne k
  unfold tk
  match i with
  | 0 => simp; grind
  | i + 1 => simp; grind
theorem tk_zero (k : Nat) : tk k (fun _ => 0) = fun _ => 0 := by
  funext i
  have h1 := pos_ne k
  unfold tk
  match i with
  | 0 => simp; grind
  | i + 1 => simp; grind
theorem tk_sum (k : Nat) (F : Nat → Nat → Rat) : ∀ m, tk k (fun i => sumN (fun j => F j i) m) = fun i => sumN (fun j => tk k (F j) i) m
  | 0 => tk_zero k
  | m + 1 => by
    show tk k (fun i => sumN (fun j => F j i) m + F m i) = fun i => sumN (fun j => tk k (F j) i) m + tk k (F m) i
    rw [tk_add, tk_sum k F m]
/-- The rows, begun with a in the place of 1. -/
def rowF (a : Nat → Rat) (k : Nat) : Nat → Nat → Rat
  | 0 => a
  | j + 1 => tk (k + j) (rowF a k j)
theorem rowF_front (a : Nat → Rat) (k : Nat) : ∀ j, rowF a k (j + 1) = tk k (rowF a (k + 1) j)
  | 0 => rfl
  | j + 1 => by
    show tk (k + (j + 1)) (rowF a k (j + 1)) = tk k (tk (k + 1 + j) (rowF a (k + 1) j))
    rw [rowF_front a k j, tk_comm, show k + (j + 1) = k + 1 + j by omega]
theorem nst_row (p : Nat → Rat) : ∀ d k, nst tk p k d = fun i => sumN (fun j => p (k + j) * rowF e0 k j i) d
  | 0, k => rfl
  | d + 1, k => by
    funext i
    show (if i = 0 then p k else 0) + tk k (nst tk p (k + 1) d) i = _
    rw [nst_row p d (k + 1), tk_sum k (fun j i => p (k + 1 + j) * rowF e0 (k + 1) j i), sumN_front]
    show (if i = 0 then p k else 0) + sumN (fun j => tk k (fun i => p (k + 1 + j) * rowF e0 (k + 1) j i) i) d = p (k + 0) * e0 i + _
    have e : sumN (fun j => tk k (fun i => p (k + 1 + j) * rowF e0 (k + 1) j i) i) d = sumN (fun j => p (k + (j + 1)) * rowF e0 k (j + 1) i) d := sumN_congr d fun j _ => by
      rw [tk_mul, rowF_front, show k + 1 + j = k + (j + 1) by omega]
    rw [e]
    unfold e0
    by_cases h : i = 0
    · simp [h]
    · simp [h]
theorem rowF_C : ∀ k, rowF e0 0 k = rowC k
  | 0 => rfl
  | k + 1 => by
    show tk (0 + k) (rowF e0 0 k) = tk k (rowC k)
    rw [rowF_C k, Nat.zero_add]
/-- The nested sum is the sum of the rows. -/
theorem nst_powers (p : Nat → Rat) (m i : Nat) : nst tk p 0 m i = sumN (fun k => p k * rowC k i) m := by
  rw [nst_row]
  exact sumN_congr m fun k _ => by rw [rowF_C, Nat.zero_add]

/-- Times n, in the binomial basis. -/
def mn (_ : Nat) (a : Nat → Rat) : Nat → Rat := fun i => (i : Rat) * (if i = 0 then 0 else a (i - 1)) + (i : Rat) * a i
def powQ (x : Rat) : Nat → Rat
  | 0 => 1
  | k + 1 => powQ x k * x
def horner (p : Nat → Rat) (x : Rat) : Nat → Nat → Rat
  | _, 0 => 0
  | k, d + 1 => p k + x * horner p x (k + 1) d
theorem horner_pow (p : Nat → Rat) (x : Rat) : ∀ d k, horner p x k d = sumN (fun j => p (k + j) * powQ x j) d
  | 0, k => rfl
  | d + 1, k => by
    show p k + x * horner p x (k + 1) d = _
    rw [sumN_front, horner_pow p x d (k + 1), sumN_mulL]
    show _ = p (k + 0) * 1 + _
    have e : sumN (fun i => x * (p (k + 1 + i) * powQ x i)) d = sumN (fun i => p (k + (i + 1)) * powQ x (i + 1)) d := sumN_congr d fun i _ => by
      rw [show k + 1 + i = k + (i + 1) by omega]
      show _ = p (k + (i + 1)) * (powQ x i * x)
      grind
    rw [e, Nat.add_zero]
    grind
theorem nst_none (T : Nat → (Nat → Rat) → Nat → Rat) (p : Nat → Rat) (hT : ∀ k a i, (∀ j, i ≤ j + 1 → a j = 0) → T k a i = 0) : ∀ d k i, d ≤ i → nst T p k d i = 0
  | 0, _, _, _ => rfl
  | d + 1, k, i, h => by
    show (if i = 0 then p k else 0) + T k (nst T p (k + 1) d) i = 0
    rw [if_neg (by omega), hT k _ i fun j hj => nst_none T p hT d (k + 1) j (by omega)]
    exact Rat.add_zero 0
theorem mn_none (k : Nat) (a : Nat → Rat) (i : Nat) (h : ∀ j, i ≤ j + 1 → a j = 0) : mn k a i = 0 := by
  unfold mn
  match i with
  | 0 => simp; grind
  | i + 1 => rw [h (i + 1) (by omega)]; simp only [Nat.add_sub_cancel, h i (by omega)]; simp; grind
theorem tk_none (k : Nat) (a : Nat → Rat) (i : Nat) (h : ∀ j, i ≤ j + 1 → a j = 0) (hi : i ≠ 0) : tk k a i = 0 := by
  unfold tk
  obtain ⟨i, rfl⟩ : ∃ j, i = j + 1 := ⟨i - 1, by omega⟩
  rw [h (i + 1) (by omega), Nat.add_sub_cancel, h i (by omega), Rat.div_def, Rat.div_def]
  simp
  grind
theorem ch_step (n j : Nat) : ((j : Rat) + 1) * chQ (n : Int) (j + 1) = ((n : Rat) - (j : Rat)) * chQ (n : Int) j := by
  have h := pos_ne j
  unfold chQ
  rw [if_neg (by omega), quo_cast, rz_succ, show ((n : Int) : Rat) = (n : Rat) from rfl]
  grind
theorem sumN_last (f : Nat → Rat) (m : Nat) : sumN f (m + 1) = sumN f m + f m := rfl
theorem ev_mn (k : Nat) (a : Nat → Rat) (m n : Nat) (h : a m = 0) : ev (mn k a) (m + 1) n = (n : Rat) * ev a m n := by
  unfold ev
  have e1 : sumN (fun j => mn k a j * chQ (n : Int) j) (m + 1) = sumN (fun j => (j : Rat) * (if j = 0 then 0 else a (j - 1)) * chQ (n : Int) j) (m + 1) + sumN (fun j => (j : Rat) * a j * chQ (n : Int) j) (m + 1) := by
    rw [← sumN_add]
    exact sumN_congr _ fun j _ => by unfold mn; grind
  rw [e1, sumN_front, sumN_last (fun j => (j : Rat) * a j * chQ (n : Int) j), h]
  have e2 : sumN (fun i => ((i + 1 : Nat) : Rat) * (if i + 1 = 0 then 0 else a (i + 1 - 1)) * chQ (n : Int) (i + 1)) m = sumN (fun i => a i * (((n : Rat) - (i : Rat)) * chQ (n : Int) i)) m := sumN_congr _ fun i _ => by
    rw [if_neg (by omega), Nat.add_sub_cancel, ← ch_step]
    push_cast
    grind
  rw [e2, sumN_mulL]
  have e3 : sumN (fun i => (n : Rat) * (a i * chQ (n : Int) i)) m = sumN (fun i => a i * (((n : Rat) - (i : Rat)) * chQ (n : Int) i)) m + sumN (fun j => (j : Rat) * a j * chQ (n : Int) j) m := by
    rw [← sumN_add]
    exact sumN_congr _ fun i _ => by grind
  rw [e3]
  simp
  grind
theorem ev_add (a b : Nat → Rat) (m n : Nat) : ev (fun i => a i + b i) m n = ev a m n + ev b m n := by
  unfold ev
  rw [← sumN_add]
  exact sumN_congr _ fun i _ => by grind
theorem ev_first (c : Rat) (n : Nat) : ∀ m, ev (fun i => if i = 0 then c else 0) (m + 1) n = c
  | 0 => by
    show (0 : Rat) + (if 0 = 0 then c else 0) * chQ (n : Int) 0 = c
    rw [ch_zero]
    simp
    grind
  | m + 1 => by
    show ev (fun i => if i = 0 then c else 0) (m + 1) n + (if m + 1 = 0 then c else 0) * chQ (n : Int) (m + 1) = c
    rw [ev_first c n m, if_neg (by omega)]
    grind
theorem ev_nst (p : Nat → Rat) (n : Nat) : ∀ d k, ev (nst mn p k d) d n = horner p (n : Rat) k d
  | 0, _ => rfl
  | d + 1, k => by
    show ev (fun i => (if i = 0 then p k else 0) + mn k (nst mn p (k + 1) d) i) (d + 1) n = p k + (n : Rat) * horner p (n : Rat) (k + 1) d
    rw [ev_add, ev_first, ev_mn _ _ _ _ (nst_none mn p mn_none d (k + 1) d (Nat.le_refl _)), ev_nst p n d (k + 1)]
/-- The list of a polynomial given in powers: its differences. -/
theorem difs_powers (p : Nat → Rat) (m j : Nat) : difs (fun n : Nat => sumN (fun k => p k * powQ (n : Rat) k) m) j 0 = if j < m then nst mn p 0 m j else 0 := by
  have e : (fun n : Nat => sumN (fun k => p k * powQ (n : Rat) k) m) = ev (nst mn p 0 m) m := funext fun n => by
    rw [ev_nst, horner_pow]
    exact sumN_congr m fun k _ => by rw [Nat.zero_add]
  rw [e, difs_ev]

def evP (a : Nat → Rat) (m : Nat) (x : Rat) : Rat := sumN (fun i => a i * powQ x i) m
theorem evP_tk (k : Nat) (a : Nat → Rat) (m : Nat) (x : Rat) (h : a m = 0) : evP (tk k a) (m + 1) x = evP a m x * (x - (k : Rat)) / ((k : Rat) + 1) := by
  have hp := pos_ne k
  unfold evP
  have e1 : sumN (fun j => tk k a j * powQ x j) (m + 1) = sumN (fun j => (if j = 0 then 0 else a (j - 1)) / ((k : Rat) + 1) * powQ x j) (m + 1) + sumN (fun j => - ((k : Rat) * a j / ((k : Rat) + 1)) * powQ x j) (m + 1) := by
    rw [← sumN_add]
    exact sumN_congr _ fun j _ => by unfold tk; grind
  rw [e1, sumN_front, sumN_last (fun j => - ((k : Rat) * a j / ((k : Rat) + 1)) * powQ x j), h]
  have e2 : sumN (fun i => (if i + 1 = 0 then 0 else a (i + 1 - 1)) / ((k : Rat) + 1) * powQ x (i + 1)) m = sumN (fun i => a i * powQ x i * (x / ((k : Rat) + 1))) m := sumN_congr _ fun i _ => by
    rw [if_neg (by omega), Nat.add_sub_cancel]
    show a i / ((k : Rat) + 1) * (powQ x i * x) = _
    grind
  have e3 : sumN (fun j => - ((k : Rat) * a j / ((k : Rat) + 1)) * powQ x j) m = sumN (fun i => a i * powQ x i * (- (k : Rat) / ((k : Rat) + 1))) m := sumN_congr _ fun i _ => by grind
  rw [e2, e3, ← sumN_mulR, ← sumN_mulR]
  simp only [if_true]
  grind
theorem rowC_none : ∀ k i, k < i → rowC k i = 0
  | 0, i, h => if_neg (by omega)
  | k + 1, i, h => tk_none k (rowC k) i (fun j hj => rowC_none k j (by omega)) (by omega)
theorem evP_row (x : Rat) : ∀ k, evP (rowC k) (k + 1) x = rz x k
  | 0 => by
    rw [rz_zero]
    show (0 : Rat) + e0 0 * 1 = 1
    unfold e0
    simp
    grind
  | k + 1 => by
    show evP (tk k (rowC k)) (k + 1 + 1) x = _
    rw [evP_tk _ _ _ _ (rowC_none k (k + 1) (by omega)), evP_row x k, rz_succ]
theorem evP_more (a : Nat → Rat) (x : Rat) {m : Nat} (h : ∀ i, m ≤ i → a i = 0) : ∀ d, evP a (m + d) x = evP a m x
  | 0 => rfl
  | d + 1 => by
    show evP a (m + d) x + a (m + d) * powQ x (m + d) = _
    rw [evP_more a x h d, h _ (by omega)]
    grind
theorem evP_add (a b : Nat → Rat) (m : Nat) (x : Rat) : evP (fun i => a i + b i) m x = evP a m x + evP b m x := by
  unfold evP
  rw [← sumN_add]
  exact sumN_congr _ fun i _ => by grind
theorem evP_mul (c : Rat) (a : Nat → Rat) (m : Nat) (x : Rat) : evP (fun i => c * a i) m x = c * evP a m x := by
  unfold evP
  rw [sumN_mulL]
  exact sumN_congr _ fun i _ => by grind
theorem evP_rows (p : Nat → Rat) (x : Rat) (m : Nat) : ∀ d, d ≤ m → evP (fun i => sumN (fun k => p k * rowC k i) d) m x = evR p d x
  | 0, _ => sumN_zero m fun i _ => Rat.zero_mul _
  | d + 1, h => by
    show evP (fun i => sumN (fun k => p k * rowC k i) d + p d * rowC d i) m x = evR p d x + p d * rz x d
    rw [evP_add, evP_rows p x m d (by omega), evP_mul]
    obtain ⟨r, rfl⟩ : ∃ r, m = d + 1 + r := ⟨m - (d + 1), by omega⟩
    rw [evP_more (rowC d) x (fun i hi => rowC_none d i (by omega)), evP_row]
/-- The coefficients of the powers give the values. -/
theorem evP_powers (p : Nat → Rat) (m : Nat) (x : Rat) : evP (nst tk p 0 m) m x = evR p m x := by
  have e : nst tk p 0 m = fun i => sumN (fun k => p k * rowC k i) m := funext fun i => nst_powers p m i
  rw [e, evP_rows p x m m (Nat.le_refl _)]
theorem evR_ev (p : Nat → Rat) (m n : Nat) : evR p m (n : Rat) = ev p m n := by
  unfold evR ev chQ
  rw [if_neg (by omega), quo_cast]
  rfl
/-- From powers and back: the coefficients of the powers of p, cut at any length behind which they are zero. -/
theorem powers_back (p l : Nat → Rat) (m m' : Nat) (h : ∀ i, i < m' → l i = nst tk p 0 m i) (h0 : ∀ i, m' ≤ i → i < m → nst tk p 0 m i = 0) (hm : m' ≤ m) (j : Nat) (hj : j < m) : (if j < m' then nst mn l 0 m' j else 0) = p j := by
  rw [← difs_powers]
  have e : (fun n : Nat => sumN (fun k => l k * powQ (n : Rat) k) m') = ev p m := funext fun n => by
    rw [← evR_ev, ← evP_powers]
    have e1 : sumN (fun k => l k * powQ (n : Rat) k) m' = evP (nst tk p 0 m) m' n := sumN_congr m' fun i hi => by rw [h i hi]
    rw [e1]
    have e2 : ∀ d, m' + d ≤ m → evP (nst tk p 0 m) (m' + d) n = evP (nst tk p 0 m) m' n := by
      intro d
      induction d with
      | zero => intro _; rfl
      | succ d ih =>
        intro hd
        show evP (nst tk p 0 m) (m' + d) n + nst tk p 0 m (m' + d) * powQ n (m' + d) = _
        rw [ih (by omega), h0 _ (by omega) (by omega)]
        grind
    have e3 := e2 (m - m') (by omega)
    rw [← e3, show m' + (m - m') = m by omega]
  rw [e, difs_ev, if_pos hj]
def Wh (D B : Nat) (x : Rat) : Prop := ∃ z : Int, x * (D : Rat) = (z : Rat) ∧ z.natAbs ≤ B
theorem Wh.le {D B B' : Nat} {x : Rat} (h : Wh D B x) (hB : B ≤ B') : Wh D B' x := by
  obtain ⟨z, e, hz⟩ := h
  exact ⟨z, e, Nat.le_trans hz hB⟩
theorem Wh.add {D B B' : Nat} {x y : Rat} (h : Wh D B x) (h' : Wh D B' y) : Wh D (B + B') (x + y) := by
  obtain ⟨z, e, hz⟩ := h
  obtain ⟨z', e', hz'⟩ := h'
  refine ⟨z + z', ?_, by omega⟩
  rw [Rat.add_mul, e, e', Rat.intCast_add]
theorem Wh.sub {D B B' : Nat} {x y : Rat} (h : Wh D B x) (h' : Wh D B' y) : Wh D (B + B') (x - y) := by
  obtain ⟨z, e, hz⟩ := h
  obtain ⟨z', e', hz'⟩ := h'
  refine ⟨z - z', ?_, by omega⟩
  rw [Rat.intCast_sub, ← e, ← e']
  grind
theorem Wh.mul {D D' B B' : Nat} {x y : Rat} (h : Wh D B x) (h' : Wh D' B' y) : Wh (D * D') (B * B') (x * y) := by
  obtain ⟨z, e, hz⟩ := h
  obtain ⟨z', e', hz'⟩ := h'
  refine ⟨z * z', ?_, by rw [Int.natAbs_mul]; exact Nat.mul_le_mul hz hz'⟩
  rw [Rat.intCast_mul, ← e, ← e', Rat.natCast_mul]
  grind
theorem Wh.scale {D B : Nat} {x : Rat} (h : Wh D B x) (c : Nat) : Wh (D * c) (B * c) x := by
  obtain ⟨z, e, hz⟩ := h
  refine ⟨z * (c : Int), ?_, by rw [Int.natAbs_mul, Int.natAbs_natCast]; exact Nat.mul_le_mul_right _ hz⟩
  rw [Rat.intCast_mul, ← e, Rat.natCast_mul]
  show x * ((D : Rat) * (c : Rat)) = x * (D : Rat) * (c : Rat)
  grind
theorem wh_int (z : Int) : Wh 1 z.natAbs (z : Rat) := ⟨z, by rw [show ((1 : Nat) : Rat) = 1 from rfl, Rat.mul_one], Nat.le_refl _⟩
theorem wh_zero (D B : Nat) : Wh D B 0 := ⟨0, by rw [Rat.zero_mul]; rfl, Nat.zero_le _⟩
theorem wh_sum {D B : Nat} {f : Nat → Rat} : ∀ m, (∀ i, i < m → Wh D B (f i)) → Wh D (m * B) (sumN f m)
  | 0, _ => wh_zero D _
  | m + 1, h => by
    rw [Nat.succ_mul]
    exact (wh_sum m fun i hi => h i (by omega)).add (h m (by omega))
theorem Wh.sz {D B k : Nat} {x : Rat} (h : Wh D B x) (h0 : 0 < D) (hD : D < pw k) (hB : B < pw k) (hk : 1 ≤ k) : Sz x k := by
  obtain ⟨z, e, hz⟩ := h
  have e1 : x = mkRat z D := by
    rw [Rat.mkRat_eq_div, ← e]
    have : (D : Rat) ≠ 0 := by simpa [Rat.natCast_eq_zero_iff] using Nat.pos_iff_ne_zero.1 h0
    show x = x * (D : Rat) / (D : Rat)
    grind
  rw [e1]
  exact sz_mk (by omega) hD hk
theorem wh_difs {D : Nat} : ∀ (j n : Nat) (v : Nat → Rat) (B : Nat), (∀ i, i < n → Wh D B (v i)) → ∀ i, j + i < n → Wh D (2 ^ j * B) (difs v j i)
  | 0, n, v, B, h, i, hi => by rw [Nat.pow_zero, Nat.one_mul]; exact h i (by omega)
  | j + 1, n, v, B, h, i, hi => by
    have h1 := wh_difs (D := D) j (n - 1) (dif v) (B + B) (fun i hi => (h (i + 1) (by omega)).sub (h i (by omega))) i (by omega)
    rw [show 2 ^ (j + 1) * B = 2 ^ j * (B + B) by rw [Nat.pow_succ, Nat.mul_assoc]; congr 1; omega]
    exact h1
/-- The scale makes every number whole. -/
theorem scl_whole (f : Nat → Rat) : ∀ n i, i < n → ∃ z : Int, f i * ((scl f n : Nat) : Rat) = (z : Rat)
  | 0, i, h => absurd h (by omega)
  | n + 1, i, h => by
    show ∃ z : Int, f i * ((scl f n * (f n * (scl f n : Rat)).den : Nat) : Rat) = (z : Rat)
    rw [Rat.natCast_mul, ← Rat.mul_assoc]
    by_cases hi : i < n
    · obtain ⟨z, hz⟩ := scl_whole f n i hi
      refine ⟨z * ((f n * (scl f n : Rat)).den : Int), ?_⟩
      rw [hz, Rat.intCast_mul]
      rfl
    · obtain rfl : i = n := by omega
      refine ⟨(f i * (scl f i : Rat)).num, ?_⟩
      generalize f i * (scl f i : Rat) = x
      have h1 := (Rat.mkRat_eq_div x.num x.den).symm.trans (Rat.mkRat_self x)
      have h2 : ((x.den : Nat) : Rat) ≠ 0 := by simpa [Rat.natCast_eq_zero_iff] using x.den_nz
      grind
theorem sz_whole {x : Rat} {z : Int} {k : Nat} (h : x = (z : Rat)) (hs : Sz x k) : Wh 1 (pw k) x := by
  subst h
  refine (wh_int z).le (Nat.le_of_lt ?_)
  exact hs.1
theorem wh_scl {f : Nat → Rat} {n K : Nat} (h : ∀ i, i < n → Sz (f i) K) {i : Nat} (hi : i < n) (hn : n ≤ 33) : Wh 1 (pw (K * 34 + 2)) (f i * ((scl f n : Nat) : Rat)) := by
  obtain ⟨z, hz⟩ := scl_whole f n i hi
  have h1 : Sz ((scl f n : Nat) : Rat) (K * n + 1) := sz_natR (scl_lt h n (Nat.le_refl _)) (by omega)
  have h2 := sz_whole hz (sz_mul (h i hi) h1)
  refine h2.le (pw_le ?_)
  have h3 : K * n ≤ K * 33 := Nat.mul_le_mul_left _ hn
  omega
/-- The numbers themselves over the scale. -/
theorem wh_over {f : Nat → Rat} {n K : Nat} (h : ∀ i, i < n → Sz (f i) K) {i : Nat} (hi : i < n) (hn : n ≤ 33) : Wh (scl f n) (pw (K * 34 + 2)) (f i) := by
  obtain ⟨z, e, hz⟩ := wh_scl h hi hn
  refine ⟨z, ?_, hz⟩
  rw [← e]
  show f i * ((scl f n : Nat) : Rat) = f i * ((scl f n : Nat) : Rat) * 1
  rw [Rat.mul_one]

def fac : Nat → Nat
  | 0 => 1
  | i + 1 => fac i * (i + 1)
theorem fac_pos : ∀ i, 0 < fac i
  | 0 => Nat.one_pos
  | i + 1 => Nat.mul_pos (fac_pos i) (Nat.succ_pos i)
theorem fac_le {i j : Nat} (h : i ≤ j) : fac i ≤ fac j := by
  obtain ⟨d, rfl⟩ : ∃ d, j = i + d := ⟨j - i, by omega⟩
  clear h
  induction d with
  | zero => exact Nat.le_refl _
  | succ d ih => exact Nat.le_trans ih (Nat.le_mul_of_pos_right _ (Nat.succ_pos _))
theorem wh_rz (x : Int) (M : Nat) : ∀ i, x.natAbs + i ≤ M → Wh (fac i) (M ^ i) (rz (x : Rat) i)
  | 0, _ => by rw [rz_zero]; exact wh_int 1
  | i + 1, h => by
    obtain ⟨z, e, hz⟩ := wh_rz x M i (by omega)
    refine ⟨z * (x - i), ?_, ?_⟩
    · rw [rz_succ, Rat.intCast_mul, ← e]
      show rz (x : Rat) i * ((x : Rat) - (i : Rat)) / ((i : Rat) + 1) * ((fac i * (i + 1) : Nat) : Rat) = _
      have hp := pos1 i
      push_cast
      grind
    · rw [Int.natAbs_mul, Nat.pow_succ]
      exact Nat.mul_le_mul hz (by omega)
theorem pow_lt33 {M i : Nat} (hM : M ≤ 2097152) (hi : i ≤ 33) : M ^ i < pw 24 := by
  refine Nat.lt_of_le_of_lt (Nat.pow_le_pow_left hM i) (Nat.lt_of_le_of_lt (Nat.pow_le_pow_right (by omega) hi) ?_)
  unfold pw
  decide +kernel
theorem fac_lt33 {i : Nat} (hi : i ≤ 34) : fac i < pw 5 := Nat.lt_of_le_of_lt (fac_le hi) (by unfold pw; decide +kernel)
theorem sz_rzI {x : Int} {i : Nat} (hx : x.natAbs ≤ 2000000) (hi : i ≤ 33) : Sz (rz (x : Rat) i) 24 :=
  (wh_rz x (x.natAbs + i) i (Nat.le_refl _)).sz (fac_pos i) (Nat.lt_of_lt_of_le (fac_lt33 (by omega)) (pw_le (by omega))) (pow_lt33 (by omega) hi) (by omega)
theorem fac_over {i j : Nat} (h : i ≤ j) : ∃ c, fac j = fac i * c ∧ c ≤ fac j := by
  obtain ⟨d, rfl⟩ : ∃ d, j = i + d := ⟨j - i, by omega⟩
  clear h
  induction d with
  | zero => exact ⟨1, (Nat.mul_one _).symm, fac_pos _⟩
  | succ d ih =>
    obtain ⟨c, hc, hle⟩ := ih
    refine ⟨c * (i + d + 1), ?_, Nat.mul_le_mul_right _ hle⟩
    show fac (i + d) * (i + d + 1) = _
    rw [hc, Nat.mul_assoc]
theorem fac33_lt : fac 33 < pw 5 := fac_lt33 (by omega)
theorem big33 : 2097152 ^ 33 * fac 33 < pw 29 := by unfold pw; decide +kernel
theorem wh_rz33 {x : Int} {i : Nat} (hx : x.natAbs ≤ 2000000) (hi : i ≤ 33) : Wh (fac 33) (pw 29) (rz (x : Rat) i) := by
  obtain ⟨c, hc, hle⟩ := fac_over hi
  have h := (wh_rz x 2097152 i (by omega)).scale c
  rw [← hc] at h
  refine h.le (Nat.le_trans (Nat.mul_le_mul (Nat.pow_le_pow_right (by omega) hi) hle) (Nat.le_of_lt big33))
/-- Values at whole places, over one denominator. -/
theorem wh_evR {f : Nat → Rat} {m : Nat} (hf : ∀ i, i < m → Sz (f i) 9) (hm : m ≤ 33) {x : Int} (hx : x.natAbs ≤ 2000000) : Wh (scl f m * fac 33) (pw 338) (evR f m (x : Rat)) := by
  have h := wh_sum (D := scl f m * fac 33) (B := pw (9 * 34 + 2) * pw 29) (f := fun k => f k * rz (x : Rat) k) m fun i hi => (wh_over hf hi hm).mul (wh_rz33 hx (by omega))
  refine h.le ?_
  rw [← pw_add]
  exact Nat.le_trans (Nat.mul_le_mul_right _ (Nat.le_trans hm (show 33 ≤ pw 1 by unfold pw; decide))) (by rw [← pw_add]; exact pw_le (by omega))
theorem den_lt {f : Nat → Rat} {m : Nat} (hf : ∀ i, i < m → Sz (f i) 9) (hm : m ≤ 33) : scl f m * fac 33 < pw 303 := by
  have h := Nat.mul_lt_mul_of_lt_of_lt (scl_lt hf m (Nat.le_refl _)) fac33_lt
  rw [← pw_add] at h
  exact Nat.lt_of_lt_of_le h (pw_le (by omega))
theorem pow2_le {j : Nat} (h : j ≤ 33) : 2 ^ j ≤ pw 2 := Nat.le_trans (Nat.pow_le_pow_right (by omega) h) (by unfold pw; decide +kernel)
theorem pw_lt {m n : Nat} (h : m < n) : pw m < pw n := by unfold pw; exact Nat.pow_lt_pow_right (by omega) h
/-- The size of differences. -/
theorem sz_difs {D k n : Nat} {v : Nat → Rat} (h : ∀ i, i < n → Wh D (pw k) (v i)) (h0 : 0 < D) (hD : D < pw (k + 3)) (hn : n ≤ 33) {j i : Nat} (hi : j + i < n) : Sz (difs v j i) (k + 3) := by
  refine (wh_difs j n v _ h i hi).sz h0 hD ?_ (by omega)
  refine Nat.lt_of_le_of_lt (Nat.mul_le_mul_right _ (pow2_le (by omega))) ?_
  rw [← pw_add]
  exact pw_lt (by omega)
theorem difs_next : ∀ (j : Nat) (v : Nat → Rat) (i : Nat), difs v (j + 1) i = difs v j (i + 1) - difs v j i
  | 0, _, _ => rfl
  | j + 1, v, i => difs_next j (dif v) i
end Go.Proofs.Ytdpiclmjdcjajaa

/-
  The walks of multiplyAll and scaleToIntegers on numbers in any form. Conditions: at most 33 numbers (40 for multiplyAll), of at most 20000 limbs in all.
-/
namespace Go.Proofs.Ytdpiclmjdcjajaa
open Go.RowKit Num

def Ke.lsa (v0 : Value) (n k : Nat) (f : Nat → Rat) : Ke := ⟨fun w v => v = v0 ∧ LstA w v n k f, fun hb h => ⟨h.1, h.2.below hb⟩⟩
def Ke.elA (K : Nat) (p : Rat) : Ke := ⟨fun w v => ∃ b o x0 x1 x2, v = .pointer (some ⟨b, o, none⟩) ∧ w.cell? ⟨b, o, none⟩ = some x0 ∧ w.cell? ⟨b, o + 1, none⟩ = some x1 ∧ w.cell? ⟨b, o + 2, none⟩ = some x2 ∧ RatA w (.agg #[x0, x1, x2]) K p, fun hb ⟨b, o, x0, x1, x2, e, c0, c1, c2, h⟩ => ⟨b, o, x0, x1, x2, e, cell_below hb c0, cell_below hb c1, cell_below hb c2, h.below hb⟩⟩
section
variable {κ : Tmp → Ke} {G : Nat → Option Tmp} {d s t u c : Tmp} {ty : TypeId} {pos : String} {es : Array Edge} {k k' B : Nat} {p q : Rat}
theorem run_idxL (a : Act) (d : Option Tmp) (ty : TypeId) (pos : String) (es : Array Edge) (t u : Tmp) (w : World) (g o n cap i : Nat) (ht : a.tmps.getD t undef = .slice (some ⟨g, o, none⟩) n cap) (hu : a.tmps.getD u undef = .int .i64 i) (hi : i < n) :
    Sem.run Try.prog (execOp a.eval ⟨d, .indexAddr 32 (.tmp t) (.tmp u), ty, pos, es, none⟩) w = .ok (.value (.pointer (some ⟨g, o + i * 3, none⟩))) w := run_index _ _ _ _ _ _ _ _ g o n cap i ht hu hi
set_option maxRecDepth 100000 in
theorem e_indexA {a' : Option Addr} {n cap i K : Nat} {f : Nat → Rat} (ht : κ t = .lsa (.slice a' n cap) n K f) (hu : κ u = .con (.int .i64 i)) (hd : κ d = .elA K (f i)) (hi : i < n) :
    FlowStep Try.prog (Fe κ) G ⟨some d, .indexAddr 32 (.tmp t) (.tmp u), ty, pos, es, none⟩ := by
  refine e_step rfl fun a w Q hf' => ?_
  have h := hf' t (by simp [Op.operands])
  have h' := hf' u (by simp [Op.operands])
  rw [ht] at h
  rw [hu] at h'
  obtain ⟨e1, h1⟩ := (show a.tmps.getD t undef = .slice a' n cap ∧ LstA w _ n K f from h)
  rw [e1] at h1
  obtain ⟨g, o, x, y, z, rfl, c0, c1, c2, hr⟩ := h1.elem hi
  unfold Oper.wp
  rw [run_idxL _ _ _ _ _ _ _ _ g o n cap i e1 h' hi, Oper.upon_value]
  exact ⟨_, rfl, Below.refl _ _, fun d' hd' => by cases hd'; rw [hd]; exact ⟨g, o + i * 3, x, y, z, rfl, c0, c1, c2, hr⟩⟩
theorem run_loadEA (a : Act) (d : Option Tmp) (ty : TypeId) (pos : String) (es : Array Edge) (t : Tmp) (w : World) (b o : Nat) (x y z : Value) (ht : a.tmps.getD t undef = .pointer (some ⟨b, o, none⟩)) (c0 : w.cell? ⟨b, o, none⟩ = some x) (c1 : w.cell? ⟨b, o + 1, none⟩ = some y) (c2 : w.cell? ⟨b, o + 2, none⟩ = some z) :
    Sem.run Try.prog (execOp a.eval ⟨d, .load 24 (.tmp t), ty, pos, es, none⟩) w = .ok (.value (.agg #[x, y, z])) w := by go_simp
set_option maxRecDepth 100000 in
theorem e_loadEA {K : Nat} (ht : κ t = .elA K p) (hd : κ d = .ra K p) : FlowStep Try.prog (Fe κ) G ⟨some d, .load 24 (.tmp t), ty, pos, es, none⟩ := by
  refine e_step rfl fun a w Q hf' => ?_
  have h := hf' t (by simp [Op.operands])
  rw [ht] at h
  obtain ⟨b, o, x, y, z, e, c0, c1, c2, hr⟩ := (show ∃ b o x0 x1 x2, a.tmps.getD t undef = .pointer (some ⟨b, o, none⟩) ∧ w.cell? ⟨b, o, none⟩ = some x0 ∧ w.cell? ⟨b, o + 1, none⟩ = some x1 ∧ w.cell? ⟨b, o + 2, none⟩ = some x2 ∧ RatA w (.agg #[x0, x1, x2]) K p from h)
  unfold Oper.wp
  rw [run_loadEA _ _ _ _ _ _ _ b o x y z e c0 c1 c2, Oper.upon_value]
  exact ⟨_, rfl, Below.refl _ _, fun d' hd' => by cases hd'; rw [hd]; exact hr⟩
end

def maA (a : Option Addr) (g n cap i k K : Nat) (m : Rat) (f : Nat → Rat) : Tmp → Ke := fun t => ([.lsa (.slice a n cap) n k f, .any, .any, .box K m, .any, .con (.slice (some ⟨g, 0, none⟩) n n), .con (.int .i64 i), .any, .any, .any, .any, .any, .any, .any, .any, .con (.slice (some ⟨g, 0, none⟩) n n), .con (.int .i64 i), .lsa (.slice a n cap) n k f, .con (.int .i64 i), .elA k (f i), .ra k (f i), .rc K m, .ratC (f i * m), .con (.pointer (some ⟨g, 0 + i * 3, none⟩)), .any, .any] : List Ke).getD t .any

set_option maxRecDepth 100000 in
set_option maxHeartbeats 8000000 in
theorem multiplyAllA_any (a : Option Addr) (n cap k K : Nat) (f : Nat → Rat) (m : Rat) (v0 : Value) (w : World) (hn : n ≤ 40) (hl : LstA w (.slice a n cap) n k f) (h0 : RatC w v0 m) (hs : Sz m K) (hk : k + K ≤ 20000) :
    Calls Try.prog 115 #[.slice a n cap, v0] w (fun e w' => ∃ g, e = .returned (.slice (some ⟨g, 0, none⟩) n n) ∧ LstI w.heap.size g n (fun i => f i * m) n w' ∧ Below w.heap.size w w') := by
  obtain ⟨H, hH⟩ : ∃ H, (fun i => f i * m) = H := ⟨_, rfl⟩
  have hHi : ∀ i, f i * m = H i := fun i => by rw [← hH]
  rw [hH]
  obtain ⟨z1, z2, z3, z4, z5, z6, rfl, _⟩ := id h0
  obtain ⟨s0, hs0⟩ : ∃ s, decide (m.num < 0) = s := ⟨_, rfl⟩
  rw [hs0] at h0 ⊢
  have hz : ∀ o, (w.alloc o).heap.size = w.heap.size + 1 := fun o => Array.size_push _
  have hb0 := below_alloc1 w (.cells #[.bool s0, .slice z1 z2 z3, .slice z4 z5 z6] 24)
  have hBn := BoxV.new w w.heap.size 24 (Nat.le_refl _) [.bool s0, .slice z1 z2 z3, .slice z4 z5 z6]
  have hb1 := below_alloc1 (w.alloc (.cells #[.bool s0, .slice z1 z2 z3, .slice z4 z5 z6] 24)) (.cells (madeCells #[.bool false, .slice none 0 0, .slice none 0 0] (n * 3)) 24)
  have hL0 := LstI.new (w.alloc (.cells #[.bool s0, .slice z1 z2 z3, .slice z4 z5 z6] 24)) w.heap.size n H (by rw [hz]; exact Nat.le_succ _)
  rw [hz] at hL0
  have HA := Lib.hid (And.intro (hBn.below hb1) (And.intro ((h0.below hb0).below hb1) (And.intro hL0 (below_next' hb0 hb1))))
  have HS := Lib.hid (And.intro hl (And.intro hs hHi))
  clear hb0 hBn hb1 hL0 h0 hl hs hHi hH hz hs0
  go_enter Try.func115, Try.ntmps115
  go_wp2_with fail
  rw [run_make32 n _ (by omega)]
  go_wp2_with fail
  go_loopw [12] (fun x wr => ∃ q : Nat, q ≤ n ∧ x = .int .i64 q ∧ BoxV wr w.heap.size w.heap.size 24 [.bool s0, .slice z1 z2 z3, .slice z4 z5 z6] ∧ RatC wr (.agg #[.bool s0, .slice z1 z2 z3, .slice z4 z5 z6]) m ∧ LstI w.heap.size (w.heap.size + 1) n H q wr ∧ Below w.heap.size w wr) (fun x _ => n - (intOf x).toNat)
  case atStart => exact ⟨0, Nat.zero_le _, rfl, HA.out⟩
  case round =>
    obtain ⟨q, hq, rfl, hB, hC, hT, hbel⟩ := hrel
    by_cases hlt : q < n
    · have hqi : (q : Int) < (n : Int) := by omega
      have HR := Lib.hid (And.intro (boxC_of hB hC HS.out.2.1) (And.intro hB (And.intro hC (And.intro hT (And.intro hbel (HS.out.1.below hbel))))))
      clear hB hC hT hbel
      go_wp2_with fail
      refine region_flow_tail (Fe (maA a (w.heap.size + 1) n cap q k K m f)) (by rfl) (Fe.mono _) 26 9 [] (by rfl) (by kernel_rfl) (by kernel_rfl) (by kernel_rfl) (by kernel_rfl) (fun t ht => by cases ht) [0, 3, 5, 6] (by kernel_rfl) ?g0 (Fe.draw _) ?gs ?gf
      case g0 =>
        intro t ht
        simp only [List.mem_cons, List.not_mem_nil, or_false] at ht
        rcases ht with rfl | rfl | rfl | rfl
        · exact ⟨rfl, HR.out.2.2.2.2.2⟩
        · exact HR.out.1
        · rfl
        · rfl
      case gs =>
        exact ⟨flowN_of (e_move rfl) (by decide), flowN_of (e_move rfl) (by decide), flowN_of (e_move rfl) (by decide), flowN_of (e_move rfl) (by decide), flowN_of (e_indexA rfl rfl rfl hlt) (by decide), flowN_of (e_loadEA rfl rfl) (by decide), flowN_of (e_loadR rfl rfl) (by decide), flowN_of (e_mul73 rfl rfl rfl hk) (by decide), flowN_of (e_idx32 rfl rfl rfl hlt) (by decide), trivial⟩
      intro a3 w3 hb3 hsz3 hdf3 hfacts hout _
      have f22 : RatC w3 (a3.tmps.getD 22 undef) (f q * m) := hfacts 7 22 (by decide) rfl
      have f23 : a3.tmps.getD 23 undef = .pointer (some ⟨w.heap.size + 1, 0 + q * 3, none⟩) := hfacts 8 23 (by decide) rfl
      rw [HS.out.2.2] at f22
      have e0 : a3.tmps.getD 0 undef = .slice a n cap := hout 0 (free_of (by kernel_rfl))
      have e1 : a3.tmps.getD 1 undef = .agg #[.bool s0, .slice z1 z2 z3, .slice z4 z5 z6] := hout 1 (free_of (by kernel_rfl))
      have e2 : a3.tmps.getD 2 undef = undef := hout 2 (free_of (by kernel_rfl))
      have e3 : a3.tmps.getD 3 undef = .pointer (some ⟨w.heap.size, 0, none⟩) := hout 3 (free_of (by kernel_rfl))
      have e4 : a3.tmps.getD 4 undef = .slice none 0 0 := hout 4 (free_of (by kernel_rfl))
      have e5 : a3.tmps.getD 5 undef = .slice (some ⟨w.heap.size + 1, 0, none⟩) n n := hout 5 (free_of (by kernel_rfl))
      have e6 : a3.tmps.getD 6 undef = .int .i64 q := hout 6 (free_of (by kernel_rfl))
      have e7 : a3.tmps.getD 7 undef = .slice a n cap := hout 7 (free_of (by kernel_rfl))
      have e8 : a3.tmps.getD 8 undef = .int .i64 n := hout 8 (free_of (by kernel_rfl))
      have e9 : a3.tmps.getD 9 undef = .slice (some ⟨w.heap.size + 1, 0, none⟩) n n := hout 9 (free_of (by kernel_rfl))
      have e10 : a3.tmps.getD 10 undef = .slice (some ⟨w.heap.size + 1, 0, none⟩) n n := hout 10 (free_of (by kernel_rfl))
      have e11 : a3.tmps.getD 11 undef = .int .i64 n := hout 11 (free_of (by kernel_rfl))
      have e12 : a3.tmps.getD 12 undef = .int .i64 q := hout 12 (free_of (by kernel_rfl))
      have e25 : a3.tmps.getD 25 undef = undef := hout 25 (free_of (by kernel_rfl))
      have hszn : a3.tmps.size = 26 := hsz3
      have hdfn : a3.defers = [] := hdf3
      change runFrom _ _ _ 1 9 a3 w3
      simp only [runFrom]
      refine e_storeL (t := 23) (u := 22) rfl f23 (HR.out.2.2.2.1.below hb3) hlt f22 fun v0 v1 v2 hL => ?_
      obtain ⟨xs, l1, l2, l3, _⟩ := HR.out.2.2.2.1.below hb3
      have hgr := grown_setL w3 (w.heap.size + 1) (q * 3) v0 v1 v2
      have HN := Lib.hid (And.intro ((HR.out.2.1.below hb3).kept hgr (by simp)) (And.intro ((HR.out.2.2.1.below hb3).other l1 l3 hgr) (And.intro hL (below_setL (below_next' HR.out.2.2.2.2.1 hb3) (o := q * 3) (Nat.le_succ _) v0 v1 v2))))
      generalize (((w3.setCell ⟨w.heap.size + 1, q * 3, none⟩ v0).setCell ⟨w.heap.size + 1, q * 3 + 1, none⟩ v1).setCell ⟨w.heap.size + 1, q * 3 + 2, none⟩ v2) = w4 at HN ⊢
      obtain ⟨uu, hu⟩ : ∃ u : Nat → Value, ∀ t, a3.tmps.getD t undef = u t := ⟨_, fun _ => rfl⟩
      have ha := act_eq a3 26 hszn hdfn
      simp only [hu] at ha e0 e1 e2 e3 e4 e5 e6 e7 e8 e9 e10 e11 e12 e25
      have ha' : a3 = ⟨#[uu 0, uu 1, uu 2, uu 3, uu 4, uu 5, uu 6, uu 7, uu 8, uu 9, uu 10, uu 11, uu 12, uu 13, uu 14, uu 15, uu 16, uu 17, uu 18, uu 19, uu 20, uu 21, uu 22, uu 23, uu 24, uu 25], []⟩ := ha
      rw [e0, e1, e2, e3, e4, e5, e6, e7, e8, e9, e10, e11, e12, e25] at ha'
      clear ha hu e0 e1 e2 e3 e4 e5 e6 e7 e8 e9 e10 e11 e12 e25 hfacts hout hszn hdfn hsz3 hdf3 f22 f23 hb3 hL hgr l1 l2 l3
      subst ha'
      go_wp2
      go_roundw
      case rel => exact ⟨q + 1, by omega, by go_num, HN.out⟩
      case measure => simp [intOf]; omega
    · obtain rfl : q = n := by omega
      have HF := Lib.hid (And.intro hT hbel)
      clear hB hC hT hbel hlt
      go_wp2
      go_ret
      exact ⟨_, rfl, HF.out.1, HF.out.2⟩

section
variable {κ : Tmp → Ke} {G : Nat → Option Tmp} {d s t u c : Tmp} {ty : TypeId} {pos : String} {es : Array Edge} {k k' : Nat} {p q : Rat}
set_option maxRecDepth 100000 in
theorem e_multAllA {a' : Option Addr} {n cap K : Nat} {f : Nat → Rat} (ht : κ t = .lsa (.slice a' n cap) n k f) (hu : κ u = .rc K p) (hd : κ d = .lsi n (fun i => f i * p)) (hn : n ≤ 40) (hk : k + K ≤ 20000) :
    FlowStep Try.prog (Fe κ) G ⟨some d, .call ⟨.value (.func 115), #[.tmp t, .tmp u], #[32, 24]⟩, ty, pos, es, none⟩ := by
  refine e_step rfl fun a w Q hf' => ?_
  have h := hf' t (by simp [Op.operands, Call.operands])
  have h' := hf' u (by simp [Op.operands, Call.operands])
  rw [ht] at h
  rw [hu] at h'
  obtain ⟨e1, h1⟩ := (show a.tmps.getD t undef = .slice a' n cap ∧ LstA w _ n k f from h)
  obtain ⟨h2, h3⟩ := (show RatC w _ p ∧ Sz p K from h')
  rw [e1] at h1
  unfold Oper.wp
  rw [c2_115, e1, Oper.upon_enter]
  refine (multiplyAllA_any a' n cap k K f p _ w hn h1 h2 h3 hk).mono ?_
  rintro e w' ⟨g, rfl, hv, hb⟩
  exact ⟨_, rfl, hb, fun d' hd' => by cases hd'; rw [hd]; exact ⟨_, g, rfl, hv⟩⟩
end

def scA (v0 : Value) (n k KS : Nat) (f : Nat → Rat) (S : Rat) : Tmp → Ke := fun t => ([.lsa v0 n k f, .any, .any, .box KS S, .any, .any, .any, .any, .any, .any, .any, .any, .any, .any, .any, .any, .any, .any, .any, .any, .any, .any, .any, .any, .lsa v0 n k f, .rc KS S, .lsi n (fun i => f i * S), .rc KS S, .sca n (fun i => f i * S) S] : List Ke).getD t .any

set_option maxRecDepth 100000 in
set_option maxHeartbeats 8000000 in
theorem scaleA_any (a : Option Addr) (n cap k kz KS : Nat) (f : Nat → Rat) (w : World) (hn : n ≤ 33) (hl : LstA w (.slice a n cap) n k f) (hf : ∀ i, i < n → Sz (f i) kz) (hk1 : 1 ≤ kz) (hkk : k ≤ kz) (hKS : kz * n + 1 ≤ KS) (hK : KS + kz ≤ 20000) :
    Calls Try.prog 71 #[.slice a n cap] w (fun e w' => ∃ v, e = .returned v ∧ Scaled w' v n (fun i => f i * ((scl f n : Nat) : Rat)) ((scl f n : Nat) : Rat) ∧ Below w.heap.size w w') := by
  have hsz : ∀ i, i ≤ n → Sz ((scl f i : Nat) : Rat) KS := fun i hi => sz_le (sz_natR (scl_lt hf i hi) (by omega)) (Nat.le_trans (Nat.succ_le_succ (Nat.mul_le_mul_left _ hi)) hKS)
  have hds : ∀ i, i < n → (f i * (scl f i : Rat)).den < pw kz := fun i hi => Nat.lt_of_le_of_lt (den_mul_nat _ _) (hf i hi).2
  have hb0 := below_alloc1 w (.cells #[.slice none 0 0, .bool false, .slice none 0 0, .slice none 0 0] 80)
  have hB0 := BoxV.new w w.heap.size 80 (Nat.le_refl _) [.slice none 0 0, .bool false, .slice none 0 0, .slice none 0 0]
  have HA := Lib.hid (And.intro hl (And.intro hf (And.intro hsz (And.intro hds (And.intro hb0 hB0)))))
  clear hl hf hsz hds hb0 hB0
  go_enter Try.func71, Try.ntmps71
  go_wp2_with fail
  refine (fromInt_any 1 _ (by omega) (by omega)).mono ?_
  rintro e w1 ⟨v, rfl, hv, hb1⟩
  rw [quo_one] at hv
  have H1 := Lib.hid (And.intro hv (And.intro (HA.out.2.2.2.2.2.below hb1) (below_next' HA.out.2.2.2.2.1 hb1)))
  obtain ⟨y1, y2, y3, y4, y5, y6, rfl, _⟩ := hv
  clear hb1
  go_wp2
  have hb2 := below_alloc1 w1 (.cells #[.bool (decide ((1 : Rat).num < 0)), .slice y1 y2 y3, .slice y4 y5 y6] 24)
  have hB2 := BoxV.new w1 w.heap.size 24 H1.out.2.2.size [.bool (decide ((1 : Rat).num < 0)), .slice y1 y2 y3, .slice y4 y5 y6]
  have h1 : ((scl f 0 : Nat) : Rat) = 1 := rfl
  have HI := Lib.hid (And.intro (H1.out.2.1.below hb2) (And.intro (below_next' H1.out.2.2 hb2) (show RtO w w1.heap.size ((scl f 0 : Nat) : Rat) _ by rw [h1]; exact ⟨y1, y2, y3, y4, y5, y6, hB2, H1.out.1.below hb2⟩)))
  have hlt0 := H1.out.2.1.block.2
  clear hb2 hB2 h1
  go_loopw [10] (fun x wr => ∃ q : Nat, q ≤ n ∧ x = .int .i64 q ∧ BoxV wr w.heap.size w.heap.size 80 [.slice none 0 0, .bool false, .slice none 0 0, .slice none 0 0] ∧ Below w.heap.size w wr ∧ RtO w w1.heap.size ((scl f q : Nat) : Rat) wr) (fun x _ => n - (intOf x).toNat)
  case atStart => exact ⟨0, Nat.zero_le _, rfl, HI.out⟩
  case round =>
    obtain ⟨q, hq, rfl, hZ, hbel, an, ln, cn, ad, ld, cd, hBs, hC⟩ := hrel
    by_cases hlt : q < n
    · have hqi : (q : Int) < (n : Int) := by omega
      obtain ⟨g, o, _, _, _, hge, c0, c1, c2, hr'⟩ := (HA.out.1.below hbel).elem (i := q) hlt
      subst hge
      obtain ⟨s1, ea, en, ec, eb, em, ed, rfl, rfl, rfl⟩ := hr'.shape
      obtain ⟨s2, hs2⟩ : ∃ s, decide (((scl f q : Nat) : Rat).num < 0) = s := ⟨_, rfl⟩
      rw [hs2] at hBs hC
      have hb5 := below_alloc1 wr (.cells #[.bool s1, .slice ea en ec, .slice eb em ed] 24)
      have hBs5 := hBs.below hb5
      obtain ⟨⟨k0, k1, k2⟩, i0, i1, i2⟩ := hBs5.three
      have HR := Lib.hid (And.intro (hZ.below hb5) (And.intro (below_next' hbel hb5) (And.intro hBs5 (And.intro (hC.below hb5) (hr'.below hb5)))))
      clear hZ hbel hBs hC hr' hb5 hBs5 hs2
      go_wp2_with fail
      refine (mul_a (k := KS + kz) (HR.out.2.2.2.2.le (by omega)) ((HR.out.2.2.2.1.a (HA.out.2.2.1 q (by omega))).le (by omega)) (by omega)).mono ?_
      rintro e w3 ⟨v3, rfl, hv3, hb6⟩
      obtain ⟨m1, m2, m3, m4, m5, m6, rfl, _, hden⟩ := hv3
      obtain ⟨⟨l0, l1, l2⟩, _⟩ := (HR.out.2.2.1.below hb6).three
      have HQ := Lib.hid (And.intro hden hb6)
      clear k0 k1 k2 i0 i1 i2 c0 c1 c2 hb6 hden
      obtain ⟨s3, hs3⟩ : ∃ s, decide ((f q * ((scl f q : Nat) : Rat)).num < 0) = s := ⟨_, rfl⟩
      rw [hs3]
      have hfd := run_den s3 m1 m4 m2 m3 m5 m6 w3
      clear hs3
      go_wp2_with fail
      have hb7 := fun T => below_alloc1 w3 (.cells #[.int .u32 1] T)
      refine (mul_a (k := KS + kz) (((HR.out.2.2.2.1.below (below_next' HQ.out.2 (hb7 _))).a (HA.out.2.2.1 q (by omega))).le (by omega)) ((ratA_whole (HQ.out.1.below (hb7 _)) (HA.out.2.2.2.1 q hlt) (by omega) (lim_one (by simp))).le (by omega)) (by omega)).mono ?_
      rintro e w4 ⟨v4, rfl, hv4, hb8⟩
      rw [scl_next] at hv4
      have hbb := below_next' HQ.out.2 (below_next' (hb7 _) hb8)
      have hBs4 := HR.out.2.2.1.below hbb
      have hC4 := hv4
      obtain ⟨j1, j2, j3, j4, j5, j6, rfl, _⟩ := hv4
      have hN := RtO.next hBs4 (noLimb_rat _ _ _ _ _ _ _) hC4
      have hgr := grown_set3 w4 w1.heap.size (.bool (decide (((scl f (q + 1) : Nat) : Rat).num < 0))) (.slice j1 j2 j3) (.slice j4 j5 j6)
      have hZ4 := (HR.out.1.below hbb).kept hgr (by simp; omega)
      have hbel4 := below_set3 (below_next' HR.out.2.1 hbb) hBs4.block.1 (.bool (decide (((scl f (q + 1) : Nat) : Rat).num < 0))) (.slice j1 j2 j3) (.slice j4 j5 j6)
      have HN := Lib.hid (And.intro hZ4 (And.intro hbel4 hN))
      clear l0 l1 l2
      obtain ⟨⟨l0, l1, l2⟩, l3, l4, l5⟩ := hBs4.three
      clear hb7 hb8 hbb hBs4 hC4 hN hgr hZ4 hbel4 hfd
      go_wp2
      go_roundw
      case rel => exact ⟨q + 1, by omega, by go_num, HN.out⟩
      case measure => simp [intOf]; omega
    · obtain rfl : q = n := by omega
      have HR := Lib.hid (And.intro hZ (And.intro hbel (And.intro hBs hC)))
      clear hZ hbel hBs hC hlt
      have hbx := boxC_of HR.out.2.2.1 HR.out.2.2.2 (HA.out.2.2.1 q (Nat.le_refl _))
      have HX := Lib.hid (And.intro hbx (HA.out.1.below HR.out.2.1))
      clear hbx
      go_wp2_with fail
      refine region_flow_tail (Fe (scA (.slice a q cap) q k KS f ((scl f q : Nat) : Rat))) (by rfl) (Fe.mono _) 29 5 [] (by rfl) (by kernel_rfl) (by kernel_rfl) (by kernel_rfl) (by kernel_rfl) (fun t ht => by cases ht) [0, 2, 3] (by kernel_rfl) ?g0 (Fe.draw _) ?gs ?gf
      case g0 =>
        intro t ht
        simp only [List.mem_cons, List.not_mem_nil, or_false] at ht
        rcases ht with rfl | rfl | rfl
        · exact ⟨rfl, HX.out.2⟩
        · trivial
        · exact HX.out.1
      case gs =>
        exact ⟨flowN_of (e_move rfl) (by decide), flowN_of (e_loadR rfl rfl) (by decide), flowN_of (e_multAllA rfl rfl rfl (by omega) (by omega)) (by decide), flowN_of (e_loadR rfl rfl) (by decide), flowN_of (e_build80 rfl rfl rfl) (by decide), trivial⟩
      intro a3 w3 hb3 hsz3 hdf3 hfacts hout _
      have f28 : Scaled w3 (a3.tmps.getD 28 undef) q (fun i => f i * ((scl f q : Nat) : Rat)) ((scl f q : Nat) : Rat) := hfacts 4 28 (by decide) rfl
      have e2 : a3.tmps.getD 2 undef = .pointer (some ⟨w.heap.size, 0, none⟩) := hout 2 (free_of (by kernel_rfl))
      have hdfn : a3.defers = [] := hdf3
      have hZ3 := HR.out.1.below hb3
      obtain ⟨B, g, s, an', ln', cn', ad', ld', cd', ev, hL, hS⟩ := f28
      have hne : g ≠ w.heap.size := by
        rintro rfl
        obtain ⟨cs, hc, _⟩ := hZ3.heap
        obtain ⟨xs, l1, _⟩ := hL
        obtain ⟨cs', hc', _⟩ := l1.heap
        rw [hc] at hc'
        simp at hc'
      change runFrom _ _ _ 1 5 a3 w3
      simp only [runFrom]
      refine e_store80 (t := 2) (u := 28) rfl e2 hZ3 ev ?_
      have hgr := grown_set80 w3 w.heap.size (.slice (some ⟨g, 0, none⟩) q q) (.bool s) (.slice an' ln' cn') (.slice ad' ld' cd')
      have hS' := hS.other hZ3 noLimb_zero80 hgr
      have hL' : LstI B g q (fun i => f i * ((scl f q : Nat) : Rat)) q _ := hL.other80 hZ3 hne hgr
      have hZ4 := boxV_setT (boxV_setT (boxV_setT (boxV_setT hZ3 0 (.slice (some ⟨g, 0, none⟩) q q)) 1 (.bool s)) 2 (.slice an' ln' cn')) 3 (.slice ad' ld' cd')
      have x0 := hZ4.cell 0 (by simp)
      have x1 := hZ4.cell 1 (by simp)
      have x2 := hZ4.cell 2 (by simp)
      have x3 := hZ4.cell 3 (by simp)
      simp at x0 x1 x2 x3
      have HF := Lib.hid (And.intro hL' (And.intro hS' ((((below_next' HR.out.2.1 hb3).setCell (p := ⟨w.heap.size, 0, none⟩) (Nat.le_refl _) (.slice (some ⟨g, 0, none⟩) q q)).setCell (p := ⟨w.heap.size, 1, none⟩) (Nat.le_refl _) (.bool s)).setCell (p := ⟨w.heap.size, 2, none⟩) (Nat.le_refl _) (.slice an' ln' cn') |>.setCell (p := ⟨w.heap.size, 3, none⟩) (Nat.le_refl _) (.slice ad' ld' cd'))))
      rw [Array.getD_eq_getD_getElem?] at e2
      clear hL' hS' hgr hZ4 hZ3 hL hS hfacts hout hsz3 hdf3 hb3
      generalize ((((w3.setCell ⟨w.heap.size, 0, none⟩ (.slice (some ⟨g, 0, none⟩) q q)).setCell ⟨w.heap.size, 1, none⟩ (.bool s)).setCell ⟨w.heap.size, 2, none⟩ (.slice an' ln' cn')).setCell ⟨w.heap.size, 3, none⟩ (.slice ad' ld' cd')) = w4 at HF x0 x1 x2 x3 ⊢
      go_wp2_with fail
      exact bodyPost_ret (v := .agg #[.slice (some ⟨g, 0, none⟩) q q, .bool s, .slice an' ln' cn', .slice ad' ld' cd']) (by simp [results, Try.results71, go_sem, e2, x0, x1, x2, x3]) hdfn ⟨_, rfl, ⟨B, g, s, _, _, _, _, _, _, rfl, HF.out.1, HF.out.2.1⟩, HF.out.2.2⟩
end Go.Proofs.Ytdpiclmjdcjajaa

/-
  A region that draws its order, with one store into a block that it makes itself, and operations that may run behind the store. Of any program.
-/
namespace Go.Proofs.Ytdpiclmjdcjajaa
open Go.RowKit

/-- What one operation must do, in a world of at least B blocks. -/
def FlowStepB (P : Program) (F : Tmp → World → Value → Prop) (G : Nat → Option Tmp) (B : Nat) (o : Oper) : Prop :=
  ∀ (a : Act) (w : World) (Q : Exit → Act → World → Prop), B ≤ w.heap.size → (∀ t, (.tmp t ∈ o.op.operands.toList ∨ ∃ g, o.guard = some g ∧ G g.1 = some t) → F t w (a.tmps.getD t undef)) →
    (flowWanted G o (fun t => a.tmps.getD t undef) = true → o.wp P a w (fun a' w' => ∃ v, a' = a.put o.dst v ∧ Below w.heap.size w w' ∧ ∀ d, o.dst = some d → F d w' v) Q) ∧
    (flowWanted G o (fun t => a.tmps.getD t undef) = false → ∀ d, o.dst = some d → F d w undef)
theorem flowB_of {P : Program} {F : Tmp → World → Value → Prop} {G : Nat → Option Tmp} {B : Nat} {o : Oper} (h : FlowStep P F G o) : FlowStepB P F G B o := fun a w Q _ hf => h a w Q hf
def FlowStepsB (P : Program) (F : Tmp → World → Value → Prop) (G : Nat → Option Tmp) (B : Nat) : Nat → List Oper → Prop
  | _, [] => True
  | 0, _ :: r => (∀ o ∈ r, FlowStepB P F G B o)
  | s + 1, o :: r => FlowStepB P F G B o ∧ FlowStepsB P F G B s r
theorem flowStepsB_get {P : Program} {F : Tmp → World → Value → Prop} {G : Nat → Option Tmp} {B : Nat} : ∀ {s : Nat} {l : List Oper} (_ : FlowStepsB P F G B s l) {i : Nat} {o : Oper}, i ≠ s → l[i]? = some o → FlowStepB P F G B o
  | _, [], _, _, _, _, h => by simp at h
  | 0, _ :: r, hs, 0, o, hi, _ => absurd rfl hi
  | 0, _ :: r, hs, i + 1, o, _, h => hs o (List.mem_of_getElem? (by simpa using h))
  | s + 1, x :: r, hs, 0, o, _, h => by
    obtain rfl : x = o := by simpa using h
    exact hs.1
  | s + 1, x :: r, hs, i + 1, o, hi, h => flowStepsB_get (s := s) (l := r) hs.2 (i := i) (o := o) (by omega) (by simpa using h)

set_option maxHeartbeats 1000000 in
theorem flow_stepB {P : Program} {F : Tmp → World → Value → Prop} {ops : Array Oper} {Q : Exit → Act → World → Prop} {A : Act} {W : World}
    (mono : ∀ t w w' v, Below w.heap.size w w' → F t w v → F t w' v) (hok : flowOk ops = true) (hroom : flowRoom ops A.tmps.size = true) :
    ∀ i l a w, (∀ o, ops[i]? = some o → FlowStepB P F (slotAt ops) W.heap.size o) → i ∈ Region.ready .any ops l → FlowI F ops A W l a w → wpOp P ops Q i (FlowI F ops A W (l.setIfInBounds i true)) a w := by
  unfold flowOk at hok
  rw [List.all_eq_true] at hok
  intro i l a w steps hi hI
  have hlt := (ready_left hi)
  obtain ⟨o, ho⟩ : ∃ o, ops[i]? = some o := ⟨_, Array.getElem?_eq_getElem hlt.1⟩
  have hoki := hok i (by simpa using hlt.1)
  rw [ho] at hoki
  simp only [Bool.and_eq_true, List.all_eq_true, Bool.or_eq_true, bne_iff_ne, ne_eq, List.mem_range, Array.any_eq_true', beq_iff_eq] at hoki
  obtain ⟨⟨_, huniq⟩, hlooks⟩ := hoki
  have hready : ∀ e ∈ o.after, Region.binds .any e = true → l.getD e.on false = true := by
    have hi' := hi
    simp only [Region.ready, List.mem_filter, List.mem_range, Bool.and_eq_true, ho, Option.map_some, Option.getD_some, Array.all_eq_true', Bool.or_eq_true, Bool.not_eq_true'] at hi'
    intro e he hb
    rcases hi'.2.2 e he with h | h
    · rw [hb] at h; cases h
    · exact h
  have huniqj : ∀ d, o.dst = some d → ∀ j, slotAt ops j = some d → j = i := by
    intro d hd j hj
    rw [hd] at huniq
    simp only [List.all_eq_true, List.mem_range, Bool.or_eq_true, beq_iff_eq, bne_iff_ne, ne_eq] at huniq
    have hlt : j < ops.size := by
      rcases Nat.lt_or_ge j ops.size with h | h
      · exact h
      · unfold slotAt at hj
        rw [Array.getElem?_eq_none h] at hj
        cases hj
    rcases huniq j hlt with h | h
    · exact h
    · exact absurd hj h
  have hfacts : ∀ t, (.tmp t ∈ o.op.operands.toList ∨ ∃ g, o.guard = some g ∧ slotAt ops g.1 = some t) → F t w (a.tmps.getD t undef) := by
    intro t ht
    have hmem := looksAt_mem ht
    refine hI.facts t ⟨i, o, ho, .inl hmem⟩ ?_
    intro j hj
    rcases hlooks t hmem with h | ⟨e, he, hb, hs⟩
    · have hlt : j < ops.size := by
        rcases Nat.lt_or_ge j ops.size with h | h
        · exact h
        · unfold slotAt at hj
          rw [Array.getElem?_eq_none h] at hj
          cases hj
      exact absurd hj (h j hlt)
    · have hl := hready e he hb
      have hje : j = e.on := by
        have hlt : e.on < ops.size := by
          rcases Nat.lt_or_ge e.on ops.size with h | h
          · exact h
          · unfold slotAt at hs
            rw [Array.getElem?_eq_none h] at hs
            cases hs
        have hoke := hok e.on (by simpa using hlt)
        obtain ⟨o', ho'⟩ : ∃ o', ops[e.on]? = some o' := ⟨_, Array.getElem?_eq_getElem hlt⟩
        rw [ho'] at hoke
        have hd' : o'.dst = some t := by unfold slotAt at hs; rw [ho'] at hs; exact hs
        simp only [Bool.and_eq_true, hd', List.all_eq_true, List.mem_range, Bool.or_eq_true, beq_iff_eq, bne_iff_ne, ne_eq] at hoke
        have hltj : j < ops.size := by
          rcases Nat.lt_or_ge j ops.size with h | h
          · exact h
          · unfold slotAt at hj
            rw [Array.getElem?_eq_none h] at hj
            cases hj
        rcases hoke.1.2 j hltj with h | h
        · exact h
        · exact absurd hj h
      rw [hje]
      have hlt : e.on < l.size := by
        rcases Nat.lt_or_ge e.on l.size with h | h
        · exact h
        · simp [Array.getD_eq_getD_getElem?, Array.getElem?_eq_none h] at hl
      simp only [Array.getD_eq_getD_getElem?, Array.getElem?_eq_getElem hlt, Option.getD_some] at hl ⊢
      exact hl
  have hst := steps o ho a w Q hI.B.size hfacts
  have hw := flow_wanted (ops := ops) (a := a) (o := o) (by rw [hI.size]; exact hroom)
  have next : ∀ v w', Below w.heap.size w w' → (∀ d, o.dst = some d → F d w' v) → FlowI F ops A W (l.setIfInBounds i true) (a.put o.dst v) w' := by
    intro v w' hb hd
    have hlst : ∀ j, j ≠ i → (l.setIfInBounds i true).getD j true = l.getD j true := by
      intro j hj
      have : i ≠ j := fun e => hj e.symm
      simp [Array.getD_eq_getD_getElem?, this]
    have hdlt : ∀ d, o.dst = some d → d < a.tmps.size := by
      intro d hd'
      rw [hI.size]
      unfold flowRoom at hroom
      rw [List.all_eq_true] at hroom
      have := hroom i (by simpa using hlt.1)
      have hs : slotAt ops i = some d := by unfold slotAt; rw [ho]; exact hd'
      rw [hs] at this
      simpa using this
    refine ⟨below_next hI.B hb, by rw [put_size]; exact hI.size, ?_, by simpa using hI.lsize, ?_, ?_⟩
    · cases o.dst <;> exact hI.defers
    · intro t ht hl
      cases hdst : o.dst with
      | none =>
        show F t w' (a.tmps.getD t undef)
        refine mono t w w' _ hb (hI.facts t ht fun j hj => ?_)
        have hne : j ≠ i := by
          rintro rfl
          unfold slotAt at hj
          rw [ho] at hj
          simp only [Option.bind_some, hdst] at hj
          cases hj
        rw [← hlst j hne]
        exact hl j hj
      | some d =>
        rw [put_getD _ _ _ _ (hdlt d hdst)]
        by_cases h : d = t
        · rw [if_pos h]
          subst h
          exact hd d hdst
        · rw [if_neg h]
          refine mono t w w' _ hb (hI.facts t ht fun j hj => ?_)
          have hne : j ≠ i := by
            rintro rfl
            unfold slotAt at hj
            rw [ho] at hj
            simp only [Option.bind_some, hdst] at hj
            exact h (Option.some.inj hj)
          rw [← hlst j hne]
          exact hl j hj
    · intro t ht
      cases hdst : o.dst with
      | none => exact hI.out t ht
      | some d =>
        rw [put_getD _ _ _ _ (hdlt d hdst), if_neg, hI.out t ht]
        rintro rfl
        exact ht i (by unfold slotAt; rw [ho]; exact hdst)
  unfold wpOp
  rw [ho]
  simp only
  rw [hw]
  by_cases hwant : flowWanted (slotAt ops) o (fun t => a.tmps.getD t undef) = true
  · rw [if_pos hwant]
    left
    refine Oper.wp_mono ?_ (hst.1 hwant)
    rintro a' w' ⟨v, rfl, hb, hd⟩
    exact next v w' hb hd
  · rw [if_neg hwant]
    exact next undef w (Below.refl _ _) (hst.2 (by simpa using hwant))



/-- The s-th comes behind all that are not late. -/
def storeOk (ops : Array Oper) (s : Nat) (late : List Nat) : Bool :=
  decide (s < ops.size) && match ops[s]? with
    | none => false
    | some o => (o.dst == none) && (List.range ops.size).all fun i => i == s || late.contains i || o.after.any fun e => Region.binds .any e && e.on == i

set_option maxHeartbeats 1000000 in
theorem region_flow_store {P : Program} (F F2 : Tmp → World → Value → Prop) {ops : Array Oper} {Q : Exit → Act → World → Prop} {id : Nat} {A : Act} {W : World} (hm : P.follows .mixedOrders = true)
    (mono : ∀ t w w' v, Below w.heap.size w w' → F t w v → F t w' v) (mono2 : ∀ t w w' v, Below w.heap.size w w' → F2 t w v → F2 t w' v)
    (n s : Nat) (late : List Nat) (hn : A.tmps.size = n) (hok : flowOk ops = true) (hroom : flowRoom ops n = true) (hlate : storeOk ops s late = true)
    (L : List Tmp) (hL : flowOuts ops L = true) (h0 : ∀ t ∈ L, F t W (A.tmps.getD t undef))
    (hdraw : ∀ t v, F t W v → F t { W with drawn := W.drawn + 1 } v)
    (steps : FlowStepsB P F (slotAt ops) W.heap.size s ops.toList)
    (steps2 : ∀ i ∈ late, ∀ o, ops[i]? = some o → FlowStep P F2 (slotAt ops) o)
    (store : ∀ a w, Below W.heap.size W w → a.tmps.size = A.tmps.size → a.defers = A.defers → (∀ i d, i ∉ late → slotAt ops i = some d → F d w (a.tmps.getD d undef)) → (∀ t, (∀ j, slotAt ops j ≠ some t) → a.tmps.getD t undef = A.tmps.getD t undef) →
      wpOp P ops Q s (fun a' w' => a' = a ∧ Below W.heap.size W w' ∧ ∀ t, F t w (a.tmps.getD t undef) → F2 t w' (a.tmps.getD t undef)) a w)
    (fin : ∀ a w, Below W.heap.size W w → a.tmps.size = A.tmps.size → a.defers = A.defers → (∀ i d, slotAt ops i = some d → F2 d w (a.tmps.getD d undef)) → (∀ t, (∀ j, slotAt ops j ≠ some t) → a.tmps.getD t undef = A.tmps.getD t undef) → Q .normal a w) :
    (Code.region id ops true).wp P Q A W := by
  subst hn
  unfold storeOk at hlate
  simp only [Bool.and_eq_true, decide_eq_true_eq] at hlate
  obtain ⟨hs, hlate⟩ := hlate
  obtain ⟨os, hos⟩ : ∃ o, ops[s]? = some o := ⟨_, Array.getElem?_eq_getElem hs⟩
  rw [hos] at hlate
  simp only [Bool.and_eq_true, beq_iff_eq, List.all_eq_true, List.mem_range, Bool.or_eq_true, Array.any_eq_true', List.contains_iff_mem] at hlate
  obtain ⟨hsd, hlate⟩ := hlate
  have huniq : ∀ i i' d, slotAt ops i = some d → slotAt ops i' = some d → i = i' := by
    intro i i' d hi hi'
    have hlt := slot_lt hi
    have hlt' := slot_lt hi'
    have hk := hok
    unfold flowOk at hk
    rw [List.all_eq_true] at hk
    have := hk i (by simpa using hlt)
    obtain ⟨o, ho⟩ : ∃ o, ops[i]? = some o := ⟨_, Array.getElem?_eq_getElem hlt⟩
    rw [ho] at this
    have hd : o.dst = some d := by unfold slotAt at hi; rw [ho] at hi; exact hi
    simp only [Bool.and_eq_true, hd, List.all_eq_true, List.mem_range, Bool.or_eq_true, beq_iff_eq, bne_iff_ne, ne_eq] at this
    rcases this.1.2 i' hlt' with h | h
    · exact h.symm
    · exact absurd hi' h
  have hsno : ∀ d, slotAt ops s ≠ some d := by
    intro d h
    unfold slotAt at h
    rw [hos] at h
    simp [hsd] at h
  let I : Array Bool → Act → World → Prop := fun l a w =>
    l.size = ops.size ∧ ((FlowI F ops A W l a w ∧ l.getD s true = false) ∨
    (FlowI F2 ops A W l a w ∧ l.getD s true = true ∧ ∀ i, i < ops.size → i ∉ late → l.getD i true = true))
  refine region_inv hm I ?_ ?_ ?_
  · refine ⟨by simp, .inl ⟨flow_start ((Below.refl _ _).drew) L hL h0 hdraw, ?_⟩⟩
    simp [Array.getD_eq_getD_getElem?, hs]
  · intro i l a w hi ⟨hls, hI⟩
    have hlt := ready_left hi
    have hoth : ∀ i', i' ≠ i → (l.setIfInBounds i true).getD i' true = l.getD i' true := by
      intro i' h
      have : i ≠ i' := fun e => h e.symm
      simp [Array.getD_eq_getD_getElem?, this]
    have hown : (l.setIfInBounds i true).getD i true = true := by
      have : i < l.size := by rw [hls]; exact hlt.1
      simp [Array.getD_eq_getD_getElem?, this]
    rcases hI with ⟨hI, hl⟩ | ⟨hI, hl, hd⟩
    · by_cases his : i = s
      · subst his
        have hdone : ∀ i', i' < ops.size → i' ≠ i → i' ∉ late → l.getD i' true = true := by
          intro i' hi' h1 h2
          rcases hlate i' hi' with (h | h) | ⟨e, he, hb, rfl⟩
          · exact absurd h h1
          · exact absurd h h2
          · have hi2 := hi
            simp only [Region.ready, List.mem_filter, List.mem_range, Bool.and_eq_true, hos, Option.map_some, Option.getD_some, Array.all_eq_true', Bool.or_eq_true, Bool.not_eq_true'] at hi2
            rcases hi2.2.2 e he with h | h
            · rw [hb] at h; cases h
            · rw [getD_le (by omega) true false]
              exact h
        refine wpOp_mono ?_ (store a w hI.B hI.size hI.defers (fun i' d hne hd => ?_) hI.out)
        · rintro a' w' ⟨rfl, h1, h2⟩
          refine ⟨by simpa using hls, .inr ⟨⟨h1, hI.size, hI.defers, by simpa using hI.lsize, fun t ht hl' => h2 t (hI.facts t ht fun j hj => ?_), hI.out⟩, hown, fun i' hi' hne => ?_⟩⟩
          · have := hl' j hj
            have hji : j ≠ i := by
              rintro rfl
              exact hsno t hj
            rwa [hoth j hji] at this
          · by_cases he : i' = i
            · subst he; exact hown
            · rw [hoth i' he]; exact hdone i' hi' he hne
        · have hlt' := slot_lt hd
          refine hI.facts d ⟨i', _, Array.getElem?_eq_getElem hlt', .inr (by unfold slotAt at hd; rw [Array.getElem?_eq_getElem hlt'] at hd; exact hd)⟩ fun j' hj' => ?_
          rw [huniq j' i' d hj' hd]
          refine hdone i' hlt' ?_ hne
          rintro rfl
          exact hsno d hd
      · refine wpOp_mono ?_ (flow_stepB mono hok hroom i l a w (fun o ho => flowStepsB_get steps his (by simpa using ho)) hi hI)
        intro a' w' h
        exact ⟨by simpa using hls, .inl ⟨h, by rw [hoth s (fun e => his e.symm)]; exact hl⟩⟩
    · have hil : i ∈ late := by
        by_cases h : i ∈ late
        · exact h
        · have := hd i hlt.1 h
          rw [hlt.2] at this
          cases this
      have his : i ≠ s := by
        rintro rfl
        rw [hlt.2] at hl
        cases hl
      refine wpOp_mono ?_ (flow_stepB mono2 hok hroom i l a w (fun o ho => flowB_of (steps2 i hil o ho)) hi hI)
      intro a' w' h
      refine ⟨by simpa using hls, .inr ⟨h, by rw [hoth s (fun e => his e.symm)]; exact hl, fun i' hi' hne => ?_⟩⟩
      by_cases he : i' = i
      · subst he; exact hown
      · rw [hoth i' he]; exact hd i' hi' hne
  · intro l a w hr ⟨hls, hI⟩
    have hall := all_done hok hls hr
    rcases hI with ⟨_, h⟩ | ⟨hI, _, _⟩
    · rw [hall s hs] at h; cases h
    · refine fin a w hI.B hI.size hI.defers (fun i d hd => ?_) hI.out
      have hlt' := slot_lt hd
      exact hI.facts d ⟨i, _, Array.getElem?_eq_getElem hlt', .inr (by unfold slotAt at hd; rw [Array.getElem?_eq_getElem hlt'] at hd; exact hd)⟩ fun j' hj' => hall j' (slot_lt hj')
end Go.Proofs.Ytdpiclmjdcjajaa

/-
  The walk of scaled.canonical. Conditions: at most 40 canonical numbers, of at most 20000 limbs together with the scale, which is not 0.
-/
namespace Go.Proofs.Ytdpiclmjdcjajaa
open Go.RowKit Num

/-- A new variable of type api.Rat. -/
def Ke.new (B : Nat) : Ke := ⟨fun w v => ∃ g, v = .pointer (some ⟨g, 0, none⟩) ∧ BoxV w B g 24 [.bool false, .slice none 0 0, .slice none 0 0], fun hb ⟨g, e, h⟩ => ⟨g, e, h.below hb⟩⟩
def Ke.tup2 : Ke := ⟨fun _ v => ∃ x ok, v = .tuple #[x, .bool ok], fun _ h => h⟩
/-- A variable whose number stands behind a list. -/
def Ke.bxs (S : Rat) : Ke := ⟨fun w v => ∃ g x y z, v = .pointer (some ⟨g, 0, none⟩) ∧ w.cell? ⟨g, 1, none⟩ = some x ∧ w.cell? ⟨g, 2, none⟩ = some y ∧ w.cell? ⟨g, 3, none⟩ = some z ∧ RatC w (.agg #[x, y, z]) S, fun hb ⟨g, x, y, z, e, c0, c1, c2, h⟩ => ⟨g, x, y, z, e, cell_below hb c0, cell_below hb c1, cell_below hb c2, h.below hb⟩⟩

section
variable {κ : Tmp → Ke} {G : Nat → Option Tmp} {d s t u c : Tmp} {ty : TypeId} {pos : String} {es : Array Edge} {k k' B : Nat} {p q : Rat}
theorem e_new (hd : κ d = .new B) : FlowStepB Try.prog (Fe κ) G B ⟨some d, .alloc 24, ty, pos, es, none⟩ := by
  intro a w Q hB _
  refine ⟨fun _ => ?_, fun h => by simp [flowWanted] at h⟩
  unfold Oper.wp
  rw [run_alloc24, Oper.upon_value]
  refine ⟨_, rfl, below_alloc1 _ _, fun d' hd' => ?_⟩
  cases hd'
  unfold Fe
  rw [hd]
  exact ⟨_, rfl, BoxV.new w B 24 hB [.bool false, .slice none 0 0, .slice none 0 0]⟩
theorem e_ext1b (ht : κ t = .tup2) (hd : κ d = .any) : FlowStep Try.prog (Fe κ) G ⟨some d, .extract (.tmp t) 1, ty, pos, es, none⟩ := by
  refine e_step rfl fun a w Q hf => ?_
  have h := hf t (by simp [Op.operands])
  rw [ht] at h
  obtain ⟨x, ok, e⟩ := (show ∃ x ok, a.tmps.getD t undef = .tuple #[x, .bool ok] from h)
  unfold Oper.wp
  rw [run_ext1 _ _ _ _ _ _ _ x ok e, Oper.upon_value]
  exact ⟨_, rfl, Below.refl _ _, fun d' hd' => by cases hd'; rw [hd]; trivial⟩
theorem run_from57 (a : Act) (d : Option Tmp) (ty : TypeId) (pos : String) (es : Array Edge) (n : Int) (w : World) :
    Sem.run Try.prog (execOp a.eval ⟨d, .call ⟨.value (.func 57), #[.const (.int .i64 n)], #[2]⟩, ty, pos, es, none⟩) w = .ok (.enter 57 #[.int .i64 n]) w := by go_simp
theorem e_from1 {n : Int} (hd : κ d = .rc k (quo n 1)) (h1 : -9223372036854775808 ≤ n) (h2 : n ≤ 9223372036854775807) (hs : Sz (quo n 1) k) :
    FlowStep Try.prog (Fe κ) G ⟨some d, .call ⟨.value (.func 57), #[.const (.int .i64 n)], #[2]⟩, ty, pos, es, none⟩ := by
  refine e_step rfl fun a w Q _ => ?_
  unfold Oper.wp
  rw [run_from57, Oper.upon_enter]
  refine (fromInt_any n w h1 h2).mono ?_
  rintro e w' ⟨v, rfl, hv, hb⟩
  exact ⟨v, rfl, hb, fun d' hd' => by cases hd'; rw [hd]; exact ⟨hv, hs⟩⟩
theorem run_fa80 (a : Act) (d : Option Tmp) (ty : TypeId) (pos : String) (es : Array Edge) (t : Tmp) (w : World) (g : Nat) (h : a.tmps.getD t undef = .pointer (some ⟨g, 0, none⟩)) :
    Sem.run Try.prog (execOp a.eval ⟨d, .fieldAddr 80 (.tmp t) 1, ty, pos, es, none⟩) w = .ok (.value (.pointer (some ⟨g, 1, none⟩))) w := by go_simp
set_option maxRecDepth 100000 in
theorem e_fa80 (ht : κ t = .bxs p) (hd : κ d = .elC p) : FlowStep Try.prog (Fe κ) G ⟨some d, .fieldAddr 80 (.tmp t) 1, ty, pos, es, none⟩ := by
  refine e_step rfl fun a w Q hf => ?_
  have h := hf t (by simp [Op.operands])
  rw [ht] at h
  obtain ⟨g, x, y, z, e, c0, c1, c2, hr⟩ := (show ∃ g x y z, a.tmps.getD t undef = .pointer (some ⟨g, 0, none⟩) ∧ w.cell? ⟨g, 1, none⟩ = some x ∧ w.cell? ⟨g, 2, none⟩ = some y ∧ w.cell? ⟨g, 3, none⟩ = some z ∧ RatC w (.agg #[x, y, z]) p from h)
  unfold Oper.wp
  rw [run_fa80 _ _ _ _ _ _ _ g e, Oper.upon_value]
  exact ⟨_, rfl, Below.refl _ _, fun d' hd' => by cases hd'; rw [hd]; exact ⟨g, 1, x, y, z, rfl, c0, c1, c2, hr⟩⟩
theorem c2_116 (a : Act) (d : Option Tmp) (ty : TypeId) (pos : String) (es : Array Edge) (t u : Tmp) (w : World) :
    Sem.run Try.prog (execOp a.eval ⟨d, .call ⟨.value (.func 116), #[.tmp t, .tmp u], #[24, 24]⟩, ty, pos, es, none⟩) w = .ok (.enter 116 #[a.tmps.getD t undef, a.tmps.getD u undef]) w := by go_simp
theorem e_div116 (ht : κ t = .rc k p) (hu : κ u = .ratC q) (hq : Sz q k') (hd : κ d = .tup (p / q)) (hk : k + k' ≤ 20000) :
    FlowStep Try.prog (Fe κ) G ⟨some d, .call ⟨.value (.func 116), #[.tmp t, .tmp u], #[24, 24]⟩, ty, pos, es, none⟩ :=
  e_c2 (fun a w => c2_116 _ _ _ _ _ _ _ _) fun w x y hx hy => by
    rw [ht] at hx
    rw [hu] at hy
    obtain ⟨hx1, hx2⟩ := (show RatC w x p ∧ Sz p k from hx)
    have hy : RatC w y q := hy
    refine (div_a (k := k + k') ((hx1.a hx2).le (by omega)) ((hy.a hq).le (by omega)) hk).mono ?_
    rintro e w' ⟨v, rfl, hv, hb⟩
    exact ⟨_, rfl, by rw [hd]; exact ⟨v, _, rfl, hv⟩, hb⟩
end

def caA (B : Nat) (S I : Rat) : Tmp → Ke := fun t => ([.any, .bxs S, .any, .new B, .any, .tup I, .rc 1 1, .elC S, .ratC S, .tup I, .ratC I] : List Ke).getD t .any
def caB (K : Nat) (I : Rat) : Tmp → Ke := fun t => if t = 3 then .box K I else if t = 5 then .tup2 else .any

/-- The new variable has got its number. -/
theorem caA_store {B K : Nat} {S I : Rat} {w : World} {g : Nat} {an ad : Option Addr} {ln cn ld cd : Nat} (hB : BoxV w B g 24 [.bool false, .slice none 0 0, .slice none 0 0]) (hs : Sz I K) (hR : RatC w (.agg #[.bool (decide (I.num < 0)), .slice an ln cn, .slice ad ld cd]) I)
    (a : Act) (e3 : a.tmps.getD 3 undef = .pointer (some ⟨g, 0, none⟩)) (t : Tmp) (h : Fe (caA B S I) t w (a.tmps.getD t undef)) :
    Fe (caB K I) t (((w.setCell ⟨g, 0, none⟩ (.bool (decide (I.num < 0)))).setCell ⟨g, 1, none⟩ (.slice an ln cn)).setCell ⟨g, 2, none⟩ (.slice ad ld cd)) (a.tmps.getD t undef) := by
  by_cases h3 : t = 3
  · subst h3
    obtain ⟨⟨c0, c1, c2⟩, _⟩ := (hB.store3 (.bool (decide (I.num < 0))) (.slice an ln cn) (.slice ad ld cd)).three
    exact ⟨g, _, _, _, e3, c0, c1, c2, hR.other hB noLimb_nil3 (grown_set3 w g _ _ _), hs⟩
  · by_cases h5 : t = 5
    · subst h5
      obtain ⟨x, ok, e, _⟩ := (show ∃ x ok, a.tmps.getD 5 undef = .tuple #[x, .bool ok] ∧ RatC w x I from h)
      exact ⟨x, ok, e⟩
    · have e : caB K I t = .any := by unfold caB; rw [if_neg h3, if_neg h5]
      show (caB K I t).holds _ _
      rw [e]
      trivial

set_option maxRecDepth 100000 in
set_option maxHeartbeats 8000000 in
theorem scanon_any (a : Option Addr) (n cap k K : Nat) (f : Nat → Rat) (S : Rat) (s : Bool) (an : Option Addr) (ln cn : Nat) (ad : Option Addr) (ld cd : Nat) (w : World) (hn : n ≤ 40) (hl : Lst w (.slice a n cap) n f) (hS : RatC w (.agg #[.bool s, .slice an ln cn, .slice ad ld cd]) S)
    (hf : ∀ i, i < n → Sz (f i) k) (hz : Sz S K) (hk : k + K ≤ 9990) :
    Calls Try.prog 74 #[.agg #[.slice a n cap, .bool s, .slice an ln cn, .slice ad ld cd]] w (fun e w' => ∃ v, e = .returned v ∧ Lst w' v (trimN (fun i => f i * (1 / S)) n) (fun i => f i * (1 / S)) ∧ Below w.heap.size w w') := by
  obtain ⟨I, hI⟩ : ∃ I, 1 / S = I := ⟨_, rfl⟩
  have hzI : Sz I (K + 2) := by
    rw [← hI]
    exact sz_le (sz_div (a := 1) (sz_le (a := 1) (by have := sz_nat (n := 1) (by decide); exact quo_one ▸ this) (by omega)) hz) (by omega)
  have hb0 := below_alloc1 w (.cells #[.slice a n cap, .bool s, .slice an ln cn, .slice ad ld cd] 80)
  have hB0 := BoxV.new w w.heap.size 80 (Nat.le_refl _) [.slice a n cap, .bool s, .slice an ln cn, .slice ad ld cd]
  have c0 : (w.alloc (.cells #[.slice a n cap, .bool s, .slice an ln cn, .slice ad ld cd] 80)).cell? ⟨w.heap.size, 0, none⟩ = some (.slice a n cap) := hB0.cell 0 (by simp)
  have c1 : (w.alloc (.cells #[.slice a n cap, .bool s, .slice an ln cn, .slice ad ld cd] 80)).cell? ⟨w.heap.size, 1, none⟩ = some (.bool s) := hB0.cell 1 (by simp)
  have c2 : (w.alloc (.cells #[.slice a n cap, .bool s, .slice an ln cn, .slice ad ld cd] 80)).cell? ⟨w.heap.size, 2, none⟩ = some (.slice an ln cn) := hB0.cell 2 (by simp)
  have c3 : (w.alloc (.cells #[.slice a n cap, .bool s, .slice an ln cn, .slice ad ld cd] 80)).cell? ⟨w.heap.size, 3, none⟩ = some (.slice ad ld cd) := hB0.cell 3 (by simp)
  rw [hI]
  have HA := Lib.hid (And.intro (hl.below hb0) (And.intro (hS.below hb0) (And.intro hb0 (And.intro hB0 (And.intro c0 (And.intro c1 (And.intro c2 c3)))))))
  have HS := Lib.hid (And.intro hf (And.intro hz (And.intro hzI hI)))
  clear hl hS hf hz hzI hb0 hB0 c0 c1 c2 c3 hI
  go_enter Try.func74, Try.ntmps74
  go_wp2_with fail
  refine region_flow_store (Fe (caA (w.alloc (.cells #[.slice a n cap, .bool s, .slice an ln cn, .slice ad ld cd] 80)).heap.size S I)) (Fe (caB (K + 2) I)) (by rfl) (Fe.mono _) (Fe.mono _) 17 8 [6, 9] (by rfl) (by kernel_rfl) (by kernel_rfl) (by kernel_rfl) [1] (by kernel_rfl) ?g0 (Fe.draw _) ?gs ?g2 ?gt ?gf
  case g0 =>
    intro t ht
    simp only [List.mem_cons, List.not_mem_nil, or_false] at ht
    subst ht
    exact ⟨w.heap.size, _, _, _, rfl, HA.out.2.2.2.2.2.1, HA.out.2.2.2.2.2.2.1, HA.out.2.2.2.2.2.2.2, HA.out.2.1⟩
  case gs =>
    refine ⟨flowB_of (e_from1 (k := 1) (by rw [quo_one]; rfl) (by omega) (by omega) (sz_nat (n := 1) (by decide))), flowB_of (e_fa80 rfl rfl), flowB_of (e_loadEC rfl rfl), flowB_of (e_div116 rfl rfl HS.out.2.1 ?_ (by omega)), flowB_of (e_move rfl), flowB_of (e_ext0 rfl rfl), flowB_of (e_ext1 rfl rfl), e_new rfl, ?_⟩
    · rw [HS.out.2.2.2]
      rfl
    · intro o ho
      simp only [List.mem_cons, List.not_mem_nil, or_false] at ho
      subst ho
      exact flowB_of (e_assign rfl)
  case g2 =>
    intro i hi o ho
    simp only [List.mem_cons, List.not_mem_nil, or_false] at hi
    rcases hi with rfl | rfl
    · obtain rfl := Option.some.inj ho
      exact e_ext1b rfl rfl
    · obtain rfl := Option.some.inj ho
      exact e_assign rfl
  case gt =>
    intro a3 w3 hb3 hsz3 hdf3 hfacts hout
    obtain ⟨g, e3, hB3⟩ : ∃ g, a3.tmps.getD 3 undef = .pointer (some ⟨g, 0, none⟩) ∧ BoxV w3 _ g 24 [.bool false, .slice none 0 0, .slice none 0 0] := hfacts 7 3 (by decide) rfl
    have f10 : RatC w3 (a3.tmps.getD 10 undef) I := hfacts 5 10 (by decide) rfl
    refine e_store (t := 3) (u := 10) rfl e3 hB3 f10 fun an' ln' cn' ad' ld' cd' hR => ?_
    exact ⟨rfl, below_set3 hb3 hB3.block.1 _ _ _, caA_store hB3 HS.out.2.2.1 hR a3 e3⟩
  case gf =>
    intro a3 w3 hb3 hsz3 hdf3 hfacts hout
    obtain ⟨g, x0, x1, x2, e3, d0, d1, d2, hr, _⟩ : (Ke.box (K + 2) I).holds w3 (a3.tmps.getD 3 undef) := hfacts 7 3 rfl
    obtain ⟨y1, y2, y3, y4, y5, y6, hy, _⟩ := id hr
    obtain ⟨rfl, rfl, rfl⟩ : x0 = .bool (decide (I.num < 0)) ∧ x1 = .slice y1 y2 y3 ∧ x2 = .slice y4 y5 y6 := by simpa using hy
    have e0 : a3.tmps.getD 0 undef = .agg #[.slice a n cap, .bool s, .slice an ln cn, .slice ad ld cd] := hout 0 (free_of (by kernel_rfl))
    have e1 : a3.tmps.getD 1 undef = .pointer (some ⟨w.heap.size, 0, none⟩) := hout 1 (free_of (by kernel_rfl))
    have e2 : a3.tmps.getD 2 undef = .slice none 0 0 := hout 2 (free_of (by kernel_rfl))
    have hszn : a3.tmps.size = 17 := hsz3
    have hdfn : a3.defers = [] := hdf3
    have c0 := cell_below hb3 HA.out.2.2.2.2.1
    have H3 := Lib.hid (And.intro (HA.out.1.below hb3) (And.intro hr (below_next' HA.out.2.2.1 hb3)))
    obtain ⟨uu, hu⟩ : ∃ u : Nat → Value, ∀ t, a3.tmps.getD t undef = u t := ⟨_, fun _ => rfl⟩
    have ha := act_eq a3 17 hszn hdfn
    simp only [hu] at ha e0 e1 e2 e3
    have ha' : a3 = ⟨#[uu 0, uu 1, uu 2, uu 3, uu 4, uu 5, uu 6, uu 7, uu 8, uu 9, uu 10, uu 11, uu 12, uu 13, uu 14, uu 15, uu 16], []⟩ := ha
    rw [e0, e1, e2, e3] at ha'
    clear ha hu e0 e1 e2 e3 hfacts hout hszn hdfn hsz3 hdf3 hb3 hr hy
    subst ha'
    obtain ⟨sI, hsI⟩ : ∃ s, decide (I.num < 0) = s := ⟨_, rfl⟩
    rw [hsI] at d0 H3
    clear hsI
    go_wp2_with fail
    refine (multiplyAll_any a n cap k (K + 2) f I _ w3 hn H3.out.1 HS.out.1 H3.out.2.1 HS.out.2.2.1 (by omega)).mono ?_
    rintro e w4 ⟨g4, rfl, hL, hb4⟩
    have hl4 := hL.lst (cap := n) (Nat.le_refl _) (by omega)
    have H4 := Lib.hid (And.intro hl4 (And.intro (hl4.toA fun i hi => sz_mul (HS.out.1 i hi) HS.out.2.2.1) (below_next' H3.out.2.2 hb4)))
    have ht := trimN_le (fun i => f i * I) n
    clear hL hl4 hb4 d0 d1 d2 c0
    go_wp2_with fail
    refine (trimL_any _ n n _ (fun i => f i * I) _ H4.out.2.1).mono ?_
    rintro e w5 ⟨rfl, hb5⟩
    have HF := Lib.hid (And.intro ((H4.out.1.below hb5).cut ht) (below_next' H4.out.2.2 hb5))
    clear hb5
    go_wp2
    go_ret
    exact ⟨_, rfl, HF.out.1, HF.out.2⟩
end Go.Proofs.Ytdpiclmjdcjajaa

/-
  Lists of numbers in any form that grow by append, and the copy of a list. Condition: at most 100 numbers.
-/
namespace Go.Proofs.Ytdpiclmjdcjajaa
open Go.RowKit Num

theorem RatA.cells {w w' : World} {v : Value} {k : Nat} {q : Rat} {g t : Nat} {cs : Array Value} {fr : Nat × Nat} (h : RatA w v k q) (hb : w.heap[g]? = some (.cells cs t fr)) (hx : NoLimb cs.toList) (hg : w.grownBy w' (some g)) : RatA w' v k q := by
  obtain ⟨neg, an, cn, ad, cd, l1, l2, e, h1, h2, r⟩ := h
  exact ⟨neg, an, cn, ad, cd, l1, l2, e, h1.other hg hb hx, h2.other hg hb hx, r⟩
/-- The numbers of a row's cells, in any form. -/
def ElsA (w : World) (cur : Array Value) (k K : Nat) (f : Nat → Rat) : Prop := ∀ j, j < k → ∃ x y z, cur[j * 3]? = some x ∧ cur[j * 3 + 1]? = some y ∧ cur[j * 3 + 2]? = some z ∧ RatA w (.agg #[x, y, z]) K (f j)
/-- A list of k numbers, of at most K limbs, that the call itself has built. -/
def OutA (B k K : Nat) (f : Nat → Rat) (v : Value) (w : World) : Prop :=
  (v = .slice none 0 0 ∧ k = 0) ∨ ∃ g cap cur, v = .slice (some ⟨g, 0, none⟩) k cap ∧ B ≤ g ∧ w.heap[g]? = some (.cells cur 24 (0, 0)) ∧ k ≤ cap ∧ cap ≤ maxLen ∧ cur.size = cap * 3 ∧ NoLimb cur.toList ∧ ElsA w cur k K f
theorem OutA.nil (B K : Nat) (f : Nat → Rat) (w : World) : OutA B 0 K f (.slice none 0 0) w := .inl ⟨rfl, rfl⟩
theorem OutA.below {B k K : Nat} {f : Nat → Rat} {v : Value} {w w' : World} (h : OutA B k K f v w) (hb : Below w.heap.size w w') : OutA B k K f v w' := by
  rcases h with h | ⟨g, cap, cur, e, h1, h2, h3, h4, h5, h6, h7⟩
  · exact .inl h
  · refine .inr ⟨g, cap, cur, e, h1, ?_, h3, h4, h5, h6, fun j hj => ?_⟩
    · rw [hb.block g (Array.getElem?_eq_some_iff.1 h2).1]; exact h2
    · obtain ⟨x, y, z, a, b, c, hr⟩ := h7 j hj
      exact ⟨x, y, z, a, b, c, hr.below hb⟩
theorem OutA.set {B k K : Nat} {f : Nat → Rat} {v : Value} {w : World} {g2 : Nat} {x y z : Value} (h : OutA B k K f v w) (hB : BoxV w B g2 24 [x, y, z]) (hx : NoLimb [x, y, z]) (hne : v.ownBlock ≠ some g2) (v0 v1 v2 : Value) :
    OutA B k K f v (((w.setCell ⟨g2, 0, none⟩ v0).setCell ⟨g2, 1, none⟩ v1).setCell ⟨g2, 2, none⟩ v2) := by
  have hgr := grown_set3 w g2 v0 v1 v2
  rcases h with h | ⟨g, cap, cur, rfl, h1, h2, h3, h4, h5, h6, h7⟩
  · exact .inl h
  · refine .inr ⟨g, cap, cur, rfl, h1, ?_, h3, h4, h5, h6, fun j hj => ?_⟩
    · rw [hgr.block g (Array.getElem?_eq_some_iff.1 h2).1 (by simpa [Value.ownBlock] using hne)]; exact h2
    · obtain ⟨x, y, z, a, b, c, hr⟩ := h7 j hj
      exact ⟨x, y, z, a, b, c, hr.other hB hx hgr⟩
theorem OutA.own {B k K : Nat} {f : Nat → Rat} {v : Value} {w : World} (h : OutA B k K f v w) : ∀ g, v.ownBlock = some g → B ≤ g ∧ g < w.heap.size := by
  intro g hg
  rcases h with ⟨rfl, _⟩ | ⟨g', cap, cur, rfl, h1, h2, _⟩
  · cases hg
  · obtain rfl : g' = g := by simpa [Value.ownBlock] using hg
    exact ⟨h1, (Array.getElem?_eq_some_iff.1 h2).1⟩
theorem OutA.lst {B k K : Nat} {f : Nat → Rat} {v : Value} {w : World} (h : OutA B k K f v w) : LstA w v k K f := by
  rcases h with ⟨rfl, rfl⟩ | ⟨g, cap, cur, rfl, h1, h2, h3, h4, h5, h6, h7⟩
  · exact ⟨none, 0, rfl, Nat.le_refl _, by omega, fun i hi => by omega⟩
  · refine ⟨_, cap, rfl, h3, by simpa [maxLen] using h4, fun i hi => ?_⟩
    obtain ⟨x, y, z, a, b, c, hr⟩ := h7 i hi
    refine ⟨g, 0, x, y, z, rfl, ?_, ?_, ?_, hr⟩ <;> rw [Nat.zero_add, cell_of_row _ _ _ _ _ _ h2]
    · exact a
    · exact b
    · exact c

theorem elsA_app {w w' : World} {cur : Array Value} {k K : Nat} {f : Nat → Rat} {b0 b1 b2 : Value} (R : List Value) (h : ElsA w cur k K f) (hs : k * 3 ≤ cur.size) (ht : ∀ j, j < k → ∀ v, RatA w v K (f j) → RatA w' v K (f j)) (hr : RatA w' (.agg #[b0, b1, b2]) K (f k)) :
    ElsA w' (cur.toList.take (k * 3) ++ [b0, b1, b2] ++ R).toArray (k + 1) K f := by
  have hl : (cur.toList.take (k * 3)).length = k * 3 := by rw [List.length_take, Array.length_toList]; omega
  intro j hj
  have hlook : ∀ i, i < k * 3 → (cur.toList.take (k * 3) ++ [b0, b1, b2] ++ R).toArray[i]? = cur[i]? := by
    intro i hi
    rw [List.getElem?_toArray, List.append_assoc, List.getElem?_append_left (by omega), List.getElem?_take, if_pos hi]
    simp
  by_cases h1 : j < k
  · obtain ⟨x, y, z, a, b, c, hx⟩ := h j h1
    exact ⟨x, y, z, by rw [hlook _ (by omega)]; exact a, by rw [hlook _ (by omega)]; exact b, by rw [hlook _ (by omega)]; exact c, ht j h1 _ hx⟩
  · obtain rfl : j = k := by omega
    refine ⟨b0, b1, b2, ?_, ?_, ?_, hr⟩
    · rw [List.getElem?_toArray, List.append_assoc, List.getElem?_append_right (by omega), hl]; simp
    · rw [List.getElem?_toArray, List.append_assoc, List.getElem?_append_right (by omega), hl, show j * 3 + 1 - j * 3 = 1 by omega]; rfl
    · rw [List.getElem?_toArray, List.append_assoc, List.getElem?_append_right (by omega), hl, show j * 3 + 2 - j * 3 = 2 by omega]; rfl

theorem run_append_ratA (w : World) (ty : TypeId) (B k K : Nat) (f : Nat → Rat) (v : Value) (hO : OutA B k K f v w) (ad : Addr) (c : Nat) (b0 b1 b2 : Value) (hnews : ∀ j u, [b0, b1, b2][j]? = some u → w.cell? (ad.add j) = some u) (hr : RatA w (.agg #[b0, b1, b2]) K (f k)) (hk : k ≤ 100) (hB : B ≤ w.heap.size) :
    ∃ v' w', (Builtin.append_ #[32, 32] ty #[v, .slice (some ad) 1 c]).run Try.prog w = .ok v' w' ∧ OutA B (k + 1) K f v' w' ∧ w.grownBy w' v.ownBlock ∧ (v'.ownBlock = v.ownBlock ∨ v'.ownBlock = some w.heap.size) := by
  have hinfo : (Try.prog.info? 24).map (fun i => (i.zero, i.size, i.bytes)) = some (some (.agg #[.bool false, .slice none 0 0, .slice none 0 0]), 3, 56) := by kernel_rfl
  obtain ⟨i, hi, hzz⟩ := Option.map_eq_some_iff.1 hinfo
  simp only [Prod.mk.injEq] at hzz
  obtain ⟨hz, hs, hby⟩ := hzz
  have ht : Try.prog.underlying 32 = some (.slice 24) := by kernel_rfl
  have hnl : NoLimb [b0, b1, b2] := by
    obtain ⟨s, an, ln, cn, ad, ld, cd, rfl, rfl, rfl⟩ := hr.shape
    exact noLimb_rat _ _ _ _ _ _ _
  have h1 : ∀ u ∈ [b0, b1, b2], u.oneCell' = true := by
    obtain ⟨s, an, ln, cn, ad, ld, cd, rfl, rfl, rfl⟩ := hr.shape
    intro u hu
    simp at hu
    rcases hu with rfl | rfl | rfl <;> rfl
  have grown : ∀ (cur : Array Value) (old : Nat) (row : Option Nat), ElsA w cur k K f → NoLimb cur.toList → k * 3 ≤ cur.size → old ≤ k →
      OutA B (k + 1) K f (.slice (some ⟨w.heap.size, 0, none⟩) (k + 1) (grownCap w (k + 1) old 24)) (w.drew.alloc (.cells ((cur.toList.take (k * 3)).toArray ++ [b0, b1, b2].toArray ++ Builtin.zeroCells #[.bool false, .slice none 0 0, .slice none 0 0] (grownCap w (k + 1) old 24 - (k + 1))) 24)) ∧
      w.grownBy (w.drew.alloc (.cells ((cur.toList.take (k * 3)).toArray ++ [b0, b1, b2].toArray ++ Builtin.zeroCells #[.bool false, .slice none 0 0, .slice none 0 0] (grownCap w (k + 1) old 24 - (k + 1))) 24)) row := by
    intro cur old row hE hN hcs ho
    have hge := grownCap_ge w (k + 1) old 24
    have hcm : grownCap w (k + 1) old 24 ≤ maxLen := grownCap_le_maxLen w (k + 1) old 24 (by unfold maxLen; omega)
    obtain ⟨Z, hZ⟩ : ∃ Z, Builtin.zeroCells #[.bool false, .slice none 0 0, .slice none 0 0] (grownCap w (k + 1) old 24 - (k + 1)) = Z := ⟨_, rfl⟩
    have hZs : Z.size = (grownCap w (k + 1) old 24 - (k + 1)) * 3 := by rw [← hZ]; exact size_zeroCells _ _
    have hZn : NoLimb Z.toList := by rw [← hZ]; exact noLimb_zero _
    rw [hZ]
    have hbel : Below w.heap.size w (w.drew.alloc (.cells ((cur.toList.take (k * 3)).toArray ++ [b0, b1, b2].toArray ++ Z) 24)) := ((Below.refl _ w).drew).alloc (Nat.le_refl _) _
    refine ⟨.inr ⟨w.heap.size, _, _, rfl, hB, heap_alloc_new w.drew _, hge, hcm, ?_, ?_, ?_⟩, ⟨rfl, rfl, rfl, by simp, fun j hj _ => hbel.block j hj⟩⟩
    · simp only [Array.size_append, List.size_toArray, hZs, List.length_take, Array.length_toList, List.length_cons, List.length_nil]
      omega
    · simp only [Array.toList_append]
      refine noLimb_app (noLimb_app (fun x hx => hN x (List.mem_of_mem_take hx)) hnl) hZn
    · have := elsA_app (w' := w.drew.alloc (.cells ((cur.toList.take (k * 3)).toArray ++ [b0, b1, b2].toArray ++ Z) 24)) (b0 := b0) (b1 := b1) (b2 := b2) Z.toList hE hcs (fun _ _ _ h => h.below hbel) (hr.below hbel)
      have e : (cur.toList.take (k * 3) ++ [b0, b1, b2] ++ Z.toList).toArray = (cur.toList.take (k * 3)).toArray ++ [b0, b1, b2].toArray ++ Z := by apply Array.ext'; simp
      rw [e] at this
      exact this
  rcases hO with ⟨rfl, rfl⟩ | ⟨g, cap, cur, rfl, g1, g2, g3, g4, g5, g6, g7⟩
  · have hrun := run_append_nil (P := Try.prog) w 32 ty 24 i _ ht hi hz ad 1 c [b0, b1, b2] (by rw [hs]; rfl) hnews (by omega) (by omega) (by rw [hby]; omega)
    have hg := grown #[] 0 (Value.ownBlock (.slice none 0 0)) (fun j hj => by omega) (fun x hx => by simp at hx) (by simp) (by omega)
    simp only [Nat.zero_add, Nat.zero_mul, List.take_zero, Array.empty_append] at hg
    exact ⟨_, _, hrun, hg.1, hg.2, .inr rfl⟩
  · by_cases hroom : k + 1 ≤ cap
    · have hrun := run_append_room (P := Try.prog) w 32 ty 24 i ht hi g k cap cur g2 ad 1 c [b0, b1, b2] (by rw [hs]; rfl) hnews h1 hroom (by rw [hs, g5]; simp; omega)
      rw [hs] at hrun
      have hgr : w.grownBy (w.setRow g (cur.toList.take (k * 3) ++ [b0, b1, b2] ++ cur.toList.drop (k * 3 + [b0, b1, b2].length)).toArray) (some g) :=
        ⟨rfl, rfl, rfl, by simp, fun k _ hk => setRow_other w g k _ (fun e => hk (by rw [e]))⟩
      refine ⟨_, _, hrun, .inr ⟨g, cap, _, rfl, g1, setRow_heap w g cur _ 24 _ g2, hroom, g4, ?_, ?_, ?_⟩, hgr, .inl rfl⟩
      · simp only [List.size_toArray, List.length_append, List.length_take, List.length_drop, Array.length_toList, List.length_cons, List.length_nil]
        omega
      · exact noLimb_app (noLimb_app (fun x hx => g6 x (List.mem_of_mem_take hx)) hnl) (fun x hx => g6 x (List.mem_of_mem_drop hx))
      · exact elsA_app _ g7 (by omega) (fun _ _ _ h => h.cells g2 g6 hgr) (hr.cells g2 g6 hgr)
    · have hl : (cur.toList.take (k * 3)).length = k * 3 := by rw [List.length_take, Array.length_toList]; omega
      have hrun := run_append_grow (P := Try.prog) w 32 ty 24 i _ ht hi hz ⟨g, 0, none⟩ k cap (cur.toList.take (k * 3)) (by rw [hs]; exact hl)
        (fun j u hu => by
          have hadd : (⟨g, 0, none⟩ : Addr).add j = ⟨g, j, none⟩ := by unfold Addr.add; split <;> simp_all
          rw [hadd, cell_of_row w g j cur 24 (0, 0) g2]
          rw [List.getElem?_take] at hu
          split at hu
          · simpa using hu
          · cases hu)
        ad 1 c [b0, b1, b2] (by rw [hs]; rfl) hnews (by omega) (by omega) (growslice_fits (by omega) (by rw [hby]; omega))
      have hg := grown cur cap (Value.ownBlock (.slice (some ⟨g, 0, none⟩) k cap)) g7 g6 (by omega) (by omega)
      exact ⟨_, _, hrun, hg.1, hg.2, .inr rfl⟩

theorem wpList_append_ratA {ops : Array Oper} {rest : List Oper} {o : Oper} {a : Act} {Q : Exit → Act → World → Prop} {w : World} (hgd : o.guard = none) (s x : Operand)
    (ho : o.op = .call { callee := .builtin .append, args := #[s, x], argTypes := #[32, 32] }) (B k K : Nat) (f : Nat → Rat) (v : Value) (hs : a.eval s = v) (hO : OutA B k K f v w)
    (ad : Addr) (c : Nat) (b0 b1 b2 : Value) (hx : a.eval x = .slice (some ad) 1 c) (hnews : ∀ j u, [b0, b1, b2][j]? = some u → w.cell? (ad.add j) = some u) (hr : RatA w (.agg #[b0, b1, b2]) K (f k)) (hk : k ≤ 100) (hB : B ≤ w.heap.size)
    (h : ∀ v' w', OutA B (k + 1) K f v' w' → w.grownBy w' v.ownBlock → (v'.ownBlock = v.ownBlock ∨ v'.ownBlock = some w.heap.size) → wpList Try.prog ops Q rest (a.put o.dst v') w') : wpList Try.prog ops Q (o :: rest) a w := by
  refine wpList_plain hgd fun K1 hK => ?_
  obtain ⟨v', w', hrun, h2, h3, h4⟩ := run_append_ratA w o.type B k K f v hO ad c b0 b1 b2 hnews hr hk hB
  unfold Oper.wp execOp
  simp only [ho, resolve, invoke, builtin, Sem.run_bind, Sem.run_pure, Result.andThen_ok, List.map_toArray, List.map_cons, List.map_nil, hs, hx, hrun]
  exact hK _ _ (h v' w' h2 h3 h4)

theorem run_append_copy (w : World) (ty : TypeId) (a : Option Addr) (n cap k : Nat) (f : Nat → Rat) (h : LstA w (.slice a n cap) n k f) (hn : n ≤ 100) :
    ∃ v' w', (Builtin.append_ #[32, 32] ty #[.slice none 0 0, .slice a n cap]).run Try.prog w = .ok v' w' ∧ LstA w' v' n k f ∧ Below w.heap.size w w' ∧ ∀ g, v'.ownBlock = some g → w.heap.size ≤ g ∧ g < w'.heap.size := by
  have hinfo : (Try.prog.info? 24).map (fun i => (i.zero, i.size, i.bytes)) = some (some (.agg #[.bool false, .slice none 0 0, .slice none 0 0]), 3, 56) := by kernel_rfl
  obtain ⟨i, hi, hzz⟩ := Option.map_eq_some_iff.1 hinfo
  simp only [Prod.mk.injEq] at hzz
  obtain ⟨hz, hs, hby⟩ := hzz
  have ht : Try.prog.underlying 32 = some (.slice 24) := by kernel_rfl
  obtain rfl | hpos := Nat.eq_zero_or_pos n
  · refine ⟨_, _, run_append_nothing (P := Try.prog) w 32 32 ty 24 i ht hi none 0 0 (Nat.le_refl _) _ ⟨.inl ⟨24, ht⟩, fun w' => ?_, ?_, ?_, by simp, by simp⟩, ⟨none, 0, rfl, Nat.le_refl _, by omega, fun i hi => by omega⟩, Below.refl _ _, fun g hg => by cases hg⟩
    · simp [Builtin.lenOf]
    · cases a with
      | none => simp [Builtin.firstCells]
      | some ad => exact run_firstCells_some (P := Try.prog) w i.size 0 ad 0 cap [] (by simp) (by simp)
    · cases a with
      | none => simp [Builtin.firstCells]
      | some ad => exact run_firstCells_some (P := Try.prog) w.drew i.size 0 ad 0 cap [] (by simp) (by simp)
  · obtain ⟨g, o, _, _, _, rfl, _⟩ := h.elem (i := 0) hpos
    have hadd : ∀ j, (⟨g, o, none⟩ : Addr).add j = ⟨g, o + j, none⟩ := fun j => by unfold Addr.add; split <;> simp_all
    have hcell : ∀ j, j < n * 3 → ∃ u, w.cell? ⟨g, o + j, none⟩ = some u := by
      intro j hj
      obtain ⟨g', o', x, y, z, e, c0, c1, c2, _⟩ := h.elem (i := j / 3) (by omega)
      obtain ⟨rfl, rfl⟩ : g = g' ∧ o = o' := by simpa using e
      have h3 : j % 3 = 0 ∨ j % 3 = 1 ∨ j % 3 = 2 := by omega
      rcases h3 with h3 | h3 | h3
      · exact ⟨x, by rw [show o + j = o + j / 3 * 3 by omega]; exact c0⟩
      · exact ⟨y, by rw [show o + j = o + j / 3 * 3 + 1 by omega]; exact c1⟩
      · exact ⟨z, by rw [show o + j = o + j / 3 * 3 + 2 by omega]; exact c2⟩
    obtain ⟨news, hnl, hnw⟩ : ∃ news : List Value, news.length = n * 3 ∧ ∀ j, j < n * 3 → news[j]? = w.cell? ⟨g, o + j, none⟩ := by
      refine ⟨(List.range (n * 3)).map fun j => (w.cell? ⟨g, o + j, none⟩).getD undef, by simp, fun j hj => ?_⟩
      obtain ⟨u, hu⟩ := hcell j hj
      simp [List.getElem?_map, List.getElem?_range hj, hu]
    have hrun := run_append_nil (P := Try.prog) w 32 ty 24 i _ ht hi hz ⟨g, o, none⟩ n cap news (by rw [hs]; exact hnl)
      (fun j v hv => by
        have hj : j < n * 3 := by
          rcases Nat.lt_or_ge j (n * 3) with h' | h'
          · exact h'
          · rw [List.getElem?_eq_none (by omega)] at hv; cases hv
        rw [hadd, ← hnw j hj]
        exact hv) hpos (by omega) (by rw [hby]; omega)
    have hge := grownCap_ge w n 0 24
    have hcm : grownCap w n 0 24 ≤ maxLen := grownCap_le_maxLen w n 0 24 (by unfold maxLen; omega)
    refine ⟨_, _, hrun, ?_⟩
    generalize Builtin.zeroCells (Value.cells (.agg #[.bool false, .slice none 0 0, .slice none 0 0])) (grownCap w n 0 24 - n) = Z
    have hbel : Below w.heap.size w (w.drew.alloc (.cells (news.toArray ++ Z) 24)) := ((Below.refl _ w).drew).alloc (Nat.le_refl _) _
    refine ⟨⟨_, _, rfl, hge, by simpa [maxLen] using hcm, fun i hi => ?_⟩, hbel, fun g hg => by simp [Value.ownBlock] at hg; subst hg; exact ⟨Nat.le_refl _, by simp⟩⟩
    obtain ⟨g', o', x, y, z, e, c0, c1, c2, hr⟩ := h.elem hi
    obtain ⟨rfl, rfl⟩ : g = g' ∧ o = o' := by simpa using e
    have hnew : ∀ j u, j < n * 3 → w.cell? ⟨g, o + j, none⟩ = some u → (w.drew.alloc (.cells (news.toArray ++ Z) 24)).cell? ⟨w.heap.size, 0 + j, none⟩ = some u := by
      intro j u hj hu
      rw [Nat.zero_add]
      show (w.drew.alloc (.cells (news.toArray ++ Z) 24)).cell? ⟨w.drew.heap.size, j, none⟩ = some u
      rw [cell_of_row _ _ _ _ _ _ (heap_alloc_new w.drew _)]
      rw [Array.getElem?_append_left (by simp; omega), List.getElem?_toArray, hnw j hj, hu]
    exact ⟨_, 0, x, y, z, rfl, hnew (i * 3) x (by omega) c0, hnew (i * 3 + 1) y (by omega) c1, hnew (i * 3 + 2) z (by omega) c2, hr.below hbel⟩
theorem wpList_append_copy {ops : Array Oper} {rest : List Oper} {o : Oper} {a : Act} {Q : Exit → Act → World → Prop} {w : World} (hgd : o.guard = none) (s x : Operand)
    (ho : o.op = .call { callee := .builtin .append, args := #[s, x], argTypes := #[32, 32] }) (hs : a.eval s = .slice none 0 0)
    (b : Option Addr) (n cap k : Nat) (f : Nat → Rat) (hx : a.eval x = .slice b n cap) (hl : LstA w (.slice b n cap) n k f) (hn : n ≤ 100)
    (h : ∀ v' w', LstA w' v' n k f → Below w.heap.size w w' → (∀ g, v'.ownBlock = some g → w.heap.size ≤ g ∧ g < w'.heap.size) → wpList Try.prog ops Q rest (a.put o.dst v') w') : wpList Try.prog ops Q (o :: rest) a w := by
  refine wpList_plain hgd fun K hK => ?_
  obtain ⟨v', w', hrun, h2, h3, h4⟩ := run_append_copy w o.type b n cap k f hl hn
  unfold Oper.wp execOp
  simp only [ho, resolve, invoke, builtin, Sem.run_bind, Sem.run_pure, Result.andThen_ok, List.map_toArray, List.map_cons, List.map_nil, hs, hx, hrun]
  exact hK _ _ (h v' w' h2 h3 h4)
end Go.Proofs.Ytdpiclmjdcjajaa

/-
  Steps for lists in any form, and an append at a region's end. No conditions.
-/
namespace Go.Proofs.Ytdpiclmjdcjajaa
open Go.RowKit Num

theorem LstA.cells {w w' : World} {a : Option Addr} {n cap k : Nat} {f : Nat → Rat} {g t : Nat} {cs : Array Value} {fr : Nat × Nat} (h : LstA w (.slice a n cap) n k f) (hb : w.heap[g]? = some (.cells cs t fr)) (hx : NoLimb cs.toList) (hg : w.grownBy w' (some g)) (hne : ∀ b, a = some b → b.block ≠ g) : LstA w' (.slice a n cap) n k f := by
  obtain ⟨a', cap', e, h1, h2, h3⟩ := h
  obtain ⟨rfl, rfl⟩ : a = a' ∧ cap = cap' := by simpa using e
  refine ⟨_, _, rfl, h1, h2, fun i hi => ?_⟩
  obtain ⟨g', o, x, y, z, rfl, c0, c1, c2, hr⟩ := h3 i hi
  have hn := hne _ rfl
  have cell : ∀ j u, w.cell? ⟨g', j, none⟩ = some u → w'.cell? ⟨g', j, none⟩ = some u := fun j u hc => hg.cell hc (by simpa using hn)
  exact ⟨g', o, x, y, z, rfl, cell _ _ c0, cell _ _ c1, cell _ _ c2, hr.cells hb hx hg⟩
/-- A list apart from a list that grows. -/
theorem LstA.grow {w w' : World} {a : Option Addr} {n cap k B j K : Nat} {f h' : Nat → Rat} {v : Value} (h : LstA w (.slice a n cap) n k f) (hO : OutA B j K h' v w) (hg : w.grownBy w' v.ownBlock) (hne : ∀ b, a = some b → v.ownBlock ≠ some b.block) : LstA w' (.slice a n cap) n k f := by
  rcases hO with ⟨rfl, _⟩ | ⟨g, cap', cur, rfl, _, hb, _, _, _, hx, _⟩
  · exact h.below ((Below.refl _ _).grown hg (Nat.le_refl _) (fun k hk => by cases hk))
  · exact h.cells hb hx (by simpa [Value.ownBlock] using hg) (fun b e => by have := hne b e; simp [Value.ownBlock] at this; exact fun e => this e.symm)

/-- A list of one new number. -/
def Ke.one (p : Rat) : Ke := ⟨fun w v => ∃ g x y z, v = .slice (some ⟨g, 0, none⟩) 1 1 ∧ (∀ j u, [x, y, z][j]? = some u → w.cell? ((⟨g, 0, none⟩ : Addr).add j) = some u) ∧ RatC w (.agg #[x, y, z]) p, fun hb ⟨g, x, y, z, e, h, hr⟩ => ⟨g, x, y, z, e, fun j u hu => cell_below hb (h j u hu), hr.below hb⟩⟩

section
variable {κ : Tmp → Ke} {G : Nat → Option Tmp} {d s t u c : Tmp} {ty : TypeId} {pos : String} {es : Array Edge} {k k' B : Nat} {p q : Rat}
theorem c2_81s (a : Act) (d : Option Tmp) (ty : TypeId) (pos : String) (es : Array Edge) (t u : Tmp) (w : World) :
    Sem.run Try.prog (execOp a.eval ⟨d, .call ⟨.value (.func 81), #[.tmp t, .tmp u], #[24, 24]⟩, ty, pos, es, none⟩) w = .ok (.enter 81 #[a.tmps.getD t undef, a.tmps.getD u undef]) w := by go_simp
theorem e_sub81 {K : Nat} (ht : κ t = .ra K p) (hu : κ u = .ra K q) (hd : κ d = .ratC (p - q)) (hk : K ≤ 7000) :
    FlowStep Try.prog (Fe κ) G ⟨some d, .call ⟨.value (.func 81), #[.tmp t, .tmp u], #[24, 24]⟩, ty, pos, es, none⟩ :=
  e_c2 (fun a w => c2_81s _ _ _ _ _ _ _ _) fun w x y hx hy => by
    rw [ht] at hx
    rw [hu] at hy
    refine (refSub_a (k := K) hx hy hk).mono ?_
    rintro e w' ⟨v, rfl, hv, hb⟩
    exact ⟨v, rfl, by rw [hd]; exact hv, hb⟩
theorem run_build1 (a : Act) (d : Option Tmp) (ty : TypeId) (pos : String) (es : Array Edge) (t : Tmp) (w : World) (b : Bool) (p q : Option Addr) (n c m e : Nat) (ht : a.tmps.getD t undef = .agg #[.bool b, .slice p n c, .slice q m e]) :
    Sem.run Try.prog (execOp a.eval ⟨d, .buildSlice 32 1 #[(0, .tmp t)], ty, pos, es, none⟩) w = .ok (.value (.slice (some ⟨w.heap.size, 0, none⟩) 1 1)) (w.alloc (.cells #[.bool b, .slice p n c, .slice q m e] 24)) := by
  rw [Array.getD_eq_getD_getElem?] at ht
  go_simp
set_option maxRecDepth 100000 in
theorem e_build1 (ht : κ t = .ratC p) (hd : κ d = .one p) : FlowStep Try.prog (Fe κ) G ⟨some d, .buildSlice 32 1 #[(0, .tmp t)], ty, pos, es, none⟩ := by
  refine e_step rfl fun a w Q hf => ?_
  have h := hf t (by simp [Op.operands])
  rw [ht] at h
  have h' : RatC w (a.tmps.getD t undef) p := h
  have h2 := h'
  obtain ⟨an, ln, cn, ad, ld, cd, ev, _⟩ := h'
  rw [ev] at h2
  unfold Oper.wp
  rw [run_build1 _ _ _ _ _ _ _ _ _ _ _ _ _ _ ev, Oper.upon_value]
  exact ⟨_, rfl, below_alloc1 _ _, fun d' hd' => by cases hd'; rw [hd]; exact ⟨_, _, _, _, rfl, three_new w _ _ _ 24 _ rfl, h2.below (below_alloc1 _ _)⟩⟩
end

/-- A list grows by one number at the region's end. -/
theorem tail_append {ops : Array Oper} {Q : Exit → Act → World → Prop} {m s x d e B k : Nat} {f : Nat → Rat} {v : Value} {a : Act} {w : World} {ty ty' : TypeId} {pos pos' : String} {es es' : Array Edge}
    (ho : ops[m]? = some ⟨some d, .call ⟨.builtin .append, #[.tmp s, .tmp x], #[32, 32]⟩, ty, pos, es, none⟩) (ho' : ops[m + 1]? = some ⟨some e, .assign (.tmp d), ty', pos', es', none⟩) (hd : d < a.tmps.size) (he : e < a.tmps.size)
    (hs : a.tmps.getD s undef = v) (hO : OutR B k f v w) (hx : (Ke.one (f k)).holds w (a.tmps.getD x undef)) (hk : k ≤ 100) (hB : B ≤ w.heap.size)
    (h : ∀ v' w' a', OutR B (k + 1) f v' w' → w.grownBy w' v.ownBlock → w.heap.size ≤ w'.heap.size → a'.tmps.size = a.tmps.size → a'.defers = a.defers → a'.tmps.getD e undef = v' → (∀ t, t ≠ d → t ≠ e → a'.tmps.getD t undef = a.tmps.getD t undef) → Q .normal a' w') : runFrom Try.prog ops Q 2 m a w := by
  obtain ⟨g, b0, b1, b2, ex, hnews, hr⟩ := (show ∃ g x' y z, a.tmps.getD x undef = .slice (some ⟨g, 0, none⟩) 1 1 ∧ (∀ j u, [x', y, z][j]? = some u → w.cell? ((⟨g, 0, none⟩ : Addr).add j) = some u) ∧ RatC w (.agg #[x', y, z]) (f k) from hx)
  obtain ⟨v', w', hrun, h2, h3, h4⟩ := run_append_rat w ty B k f v hO ⟨g, 0, none⟩ 1 b0 b1 b2 hnews hr hk hB
  show wpOp Try.prog ops Q m (runFrom Try.prog ops Q 1 (m + 1)) a w
  unfold wpOp
  rw [ho]
  simp only [Region.wanted, if_true]
  left
  unfold Oper.wp execOp
  have hs' : a.eval (.tmp s) = v := hs
  have hx' : a.eval (.tmp x) = .slice (some ⟨g, 0, none⟩) 1 1 := ex
  simp only [resolve, invoke, builtin, Sem.run_bind, Sem.run_pure, Result.andThen_ok, List.map_toArray, List.map_cons, List.map_nil, hs', hx', hrun, Oper.upon_value]
  show wpOp Try.prog ops Q (m + 1) (runFrom Try.prog ops Q 0 (m + 2)) (a.put (some d) v') w'
  unfold wpOp
  rw [ho']
  simp only [Region.wanted, if_true]
  left
  unfold Oper.wp execOp
  simp only [Sem.run_pure, Oper.upon_value]
  have hd1 : (a.put (some d) v').eval (.tmp d) = v' := by
    show (a.put (some d) v').tmps.getD d undef = v'
    rw [put_getD _ _ _ _ hd, if_pos rfl]
  rw [hd1]
  have he' : e < (a.put (some d) v').tmps.size := by rw [put_size]; exact he
  refine h v' w' _ h2 h3 h4 (by rw [put_size, put_size]) rfl (by rw [put_getD _ _ _ _ he', if_pos rfl]) fun t h5 h6 => ?_
  rw [put_getD _ _ _ _ he', if_neg (fun e => h6 e.symm), put_getD _ _ _ _ hd, if_neg (fun e => h5 e.symm)]
end Go.Proofs.Ytdpiclmjdcjajaa

/-
  A region that draws its order, whose forced end may write a slot that its front reads. Of any program.
-/
namespace Go.Proofs.Ytdpiclmjdcjajaa
open Go.RowKit

/-- The slot that an operation of the front writes. -/
def slotK (ops : Array Oper) (k j : Nat) : Option Tmp := if j < k then slotAt ops j else none
theorem slotK_some {ops : Array Oper} {k j : Nat} {t : Tmp} (h : slotK ops k j = some t) : j < k ∧ slotAt ops j = some t := by
  unfold slotK at h
  split at h
  · exact ⟨by assumption, h⟩
  · cases h
theorem slotK_of {ops : Array Oper} {k j : Nat} {o : Oper} (h : j < k) (ho : ops[j]? = some o) : slotK ops k j = o.dst := by
  unfold slotK slotAt
  rw [if_pos h, ho]
  rfl
theorem slotK_lt {ops : Array Oper} {k j : Nat} {t : Tmp} (h : slotK ops k j = some t) : j < ops.size := slot_lt (slotK_some h).2
/-- The slot is not written by the front. -/
def flowFreeK (ops : Array Oper) (k : Nat) (t : Tmp) : Bool := (List.range k).all fun j => slotAt ops j != some t
theorem free_ofK {ops : Array Oper} {k : Nat} {t : Tmp} (h : flowFreeK ops k t = true) : ∀ j, slotK ops k j ≠ some t := by
  intro j hj
  obtain ⟨h1, h2⟩ := slotK_some hj
  unfold flowFreeK at h
  rw [List.all_eq_true] at h
  have := h j (by simpa using h1)
  simp [h2] at this

/-- What is known while the free part of the region runs. -/
structure FlowJK (F : Tmp → World → Value → Prop) (ops : Array Oper) (k : Nat) (N : List Tmp) (A : Act) (W : World) (l : Array Bool) (a : Act) (w : World) : Prop where
  B : Below W.heap.size W w
  size : a.tmps.size = A.tmps.size
  defers : a.defers = A.defers
  lsize : l.size = ops.size
  closed : ∀ (i : Nat) (o : Oper), ops[i]? = some o → l.getD i true = true → ∀ e ∈ o.after, Region.binds .any e = true → l.getD e.on true = true
  rest : ∀ j, k ≤ j → j < ops.size → l.getD j true = false
  facts : ∀ t, (∃ (i : Nat) (o : Oper), ops[i]? = some o ∧ i < k ∧ (t ∈ o.looksAt ops ∨ o.dst = some t)) → (∀ j, slotK ops k j = some t → l.getD j true = true) → F t w (a.tmps.getD t undef)
  out : ∀ t, (∀ j, slotK ops k j ≠ some t) → a.tmps.getD t undef = A.tmps.getD t undef
  apart : ∀ i j s t, i ≠ j → slotK ops k i = some s → slotK ops k j = some t → s ∈ N → t ∈ N → l.getD i true = true → l.getD j true = true → a.tmps.getD s undef ≠ a.tmps.getD t undef

/-- The k operations at the front have slots that no other writes. -/
def flowOkK (ops : Array Oper) (k : Nat) : Bool :=
  (List.range ops.size).all fun i => match ops[i]? with
    | none => true
    | some o =>
      (o.after.all fun e => !Region.binds .any e || decide (e.on < i)) &&
      (match o.dst with
        | none => true
        | some d => (List.range ops.size).all fun j => j == i || slotK ops k j != some d) &&
      (decide (k ≤ i) || (o.looksAt ops).all fun t => ((List.range ops.size).all fun j => slotK ops k j != some t) || o.after.any fun e => Region.binds .any e && slotK ops k e.on == some t)

def flowOutsK (ops : Array Oper) (k : Nat) (L : List Tmp) : Bool :=
  (List.range k).all fun i => match ops[i]? with
    | none => true
    | some o => (o.looksAt ops).all fun t => L.contains t || (List.range ops.size).any fun j => slotK ops k j == some t

set_option maxHeartbeats 2000000 in
theorem region_flow_tailK {P : Program} (F : Tmp → World → Value → Prop) {ops : Array Oper} {Q : Exit → Act → World → Prop} {id : Nat} {A : Act} {W : World} (hm : P.follows .mixedOrders = true)
    (mono : ∀ t w w' v, Below w.heap.size w w' → F t w v → F t w' v)
    (n k : Nat) (N : List Tmp) (hn : A.tmps.size = n) (hok : flowOkK ops k = true) (hroom : flowRoom ops n = true) (hM : aheadOk ops (aheadOf ops) = true) (hT : tailOk ops (aheadOf ops) k = true)
    (hN : ∀ t ∈ N, ∀ w v, F t w v → ∃ g, v = .pointer (some ⟨g, 0, none⟩) ∧ g < w.heap.size)
    (L : List Tmp) (hL : flowOutsK ops k L = true) (h0 : ∀ t ∈ L, F t W (A.tmps.getD t undef))
    (hdraw : ∀ t v, F t W v → F t { W with drawn := W.drawn + 1 } v)
    (steps : FlowStepsN P F (slotAt ops) N W.heap.size k ops.toList)
    (fin : ∀ a w, Below W.heap.size W w → a.tmps.size = A.tmps.size → a.defers = A.defers → (∀ i d, i < k → slotK ops k i = some d → F d w (a.tmps.getD d undef)) → (∀ t, (∀ j, slotK ops k j ≠ some t) → a.tmps.getD t undef = A.tmps.getD t undef) →
      (∀ i j s t, i < k → j < k → i ≠ j → slotK ops k i = some s → slotK ops k j = some t → s ∈ N → t ∈ N → a.tmps.getD s undef ≠ a.tmps.getD t undef) → runFrom P ops Q (ops.size - k) k a w) :
    (Code.region id ops true).wp P Q A W := by
  subst hn
  unfold flowOkK at hok
  rw [List.all_eq_true] at hok
  unfold tailOk at hT
  simp only [Bool.and_eq_true, decide_eq_true_eq, List.all_eq_true, List.mem_range, Bool.or_eq_true, List.contains_iff_mem] at hT
  obtain ⟨hkn, hT⟩ := hT
  have hback : ∀ (i : Nat) (o : Oper), ops[i]? = some o → ∀ e ∈ o.after, Region.binds .any e = true → e.on < i := by
    intro i o ho e he hb
    have hlt : i < ops.size := by
      rcases Nat.lt_or_ge i ops.size with h | h
      · exact h
      · rw [Array.getElem?_eq_none h] at ho
        cases ho
    have := hok i (by simpa using hlt)
    rw [ho] at this
    simp only [Bool.and_eq_true, Array.all_eq_true', Bool.or_eq_true, Bool.not_eq_true', decide_eq_true_eq] at this
    rcases this.1.1 e he with h | h
    · rw [hb] at h; cases h
    · exact h
  have huniq : ∀ i j d, slotK ops k i = some d → slotK ops k j = some d → i = j := by
    intro i j d hi hj
    have hlt := slotK_lt hi
    have hltj := slotK_lt hj
    have := hok i (by simpa using hlt)
    obtain ⟨o, ho⟩ : ∃ o, ops[i]? = some o := ⟨_, Array.getElem?_eq_getElem hlt⟩
    rw [ho] at this
    have hd : o.dst = some d := by have h := (slotK_some hi).2; unfold slotAt at h; rw [ho] at h; exact h
    simp only [Bool.and_eq_true, hd, List.all_eq_true, List.mem_range, Bool.or_eq_true, beq_iff_eq, bne_iff_ne, ne_eq] at this
    rcases this.1.2 j hltj with h | h
    · exact h.symm
    · exact absurd hj h
  have hreadyE : ∀ {l : Array Bool} {i : Nat} {o : Oper}, i ∈ Region.ready .any ops l → ops[i]? = some o → ∀ e ∈ o.after, Region.binds .any e = true → l.getD e.on false = true := by
    intro l i o hi ho e he hb
    simp only [Region.ready, List.mem_filter, List.mem_range, Bool.and_eq_true, ho, Option.map_some, Option.getD_some, Array.all_eq_true', Bool.or_eq_true, Bool.not_eq_true'] at hi
    rcases hi.2.2 e he with h | h
    · rw [hb] at h; cases h
    · exact h
  have hlistE : ∀ {l : Array Bool} {j : Nat}, l.getD j false = true → l.getD j true = true := by
    intro l j h
    have hlt : j < l.size := by
      rcases Nat.lt_or_ge j l.size with h' | h'
      · exact h'
      · simp [Array.getD_eq_getD_getElem?, Array.getElem?_eq_none h'] at h
    rw [getD_le hlt true false]
    exact h
  have hmin : ∀ {l : Array Bool}, l.size = ops.size → (∃ j, j < ops.size ∧ l.getD j true = false) → Region.ready .any ops l ≠ [] := by
    intro l hls hex hr
    have key : ∀ j, j < ops.size → l.getD j true = true := by
      intro j
      induction j using Nat.strongRecOn with
      | ind j ih =>
        intro hj
        by_cases hl : l.getD j true = true
        · exact hl
        · exfalso
          obtain ⟨o, ho⟩ : ∃ o, ops[j]? = some o := ⟨_, Array.getElem?_eq_getElem hj⟩
          have hmem : j ∈ Region.ready .any ops l := by
            simp only [Region.ready, List.mem_filter, List.mem_range, Bool.and_eq_true, ho, Option.map_some, Option.getD_some, Array.all_eq_true', Bool.or_eq_true, Bool.not_eq_true']
            refine ⟨hj, by simpa using hl, fun e he => ?_⟩
            by_cases hb : Region.binds .any e = true
            · right
              have h := hback j o ho e he hb
              rw [getD_le (by omega) false true]
              exact ih e.on h (by omega)
            · left
              simpa using hb
          rw [hr] at hmem
          cases hmem
    obtain ⟨j, hj, hl⟩ := hex
    rw [key j hj] at hl
    cases hl
  let I : Array Bool → Act → World → Prop := fun l a w =>
    (∃ m, k ≤ m ∧ m ≤ ops.size ∧ l.size = ops.size ∧ (∀ j, j < ops.size → (l.getD j true = true ↔ j < m)) ∧ runFrom P ops Q (ops.size - m) m a w) ∨
    (FlowJK F ops k N A W l a w ∧ ∃ j, j < k ∧ l.getD j true = false)
  have enter : ∀ l a w, FlowJK F ops k N A W l a w → I l a w := by
    intro l a w hI
    by_cases hex : ∃ j, j < k ∧ l.getD j true = false
    · exact .inr ⟨hI, hex⟩
    · left
      have hall : ∀ j, j < k → l.getD j true = true := by
        intro j hj
        by_cases h : l.getD j true = true
        · exact h
        · exact absurd ⟨j, hj, by simpa using h⟩ hex
      refine ⟨k, Nat.le_refl _, hkn, hI.lsize, fun j hj => ⟨fun h => ?_, hall j⟩, fin a w hI.B hI.size hI.defers (fun i d hik hd => ?_) hI.out (fun i j s t hi hj hij hs ht hsN htN => ?_)⟩
      · rcases Nat.lt_or_ge j k with h' | h'
        · exact h'
        · have := hI.rest j h' hj
          rw [h] at this
          cases this
      · obtain ⟨o, ho⟩ : ∃ o, ops[i]? = some o := ⟨_, Array.getElem?_eq_getElem (slotK_lt hd)⟩
        refine hI.facts d ⟨i, o, ho, hik, .inr (by have h := (slotK_some hd).2; unfold slotAt at h; rw [ho] at h; exact h)⟩ fun j hj => ?_
        rw [huniq j i d hj hd]
        exact hall i hik
      · exact hI.apart i j s t hij hs ht hsN htN (hall i hi) (hall j hj)
  refine region_inv hm I ?_ ?_ ?_
  · refine enter _ _ _ ⟨(Below.refl _ _).drew, rfl, rfl, by simp, ?_, ?_, ?_, fun _ _ => rfl, ?_⟩
    · intro i o ho hl
      exfalso
      have hlt : i < ops.size := by
        rcases Nat.lt_or_ge i ops.size with h | h
        · exact h
        · rw [Array.getElem?_eq_none h] at ho
          cases ho
      simp [Array.getD_eq_getD_getElem?, hlt] at hl
    · intro j _ hj
      simp [Array.getD_eq_getD_getElem?, hj]
    · rintro t ⟨i, o, hi, hik, hto⟩ hl
      have hno : ∀ j, slotK ops k j ≠ some t := by
        intro j hj
        have hlt := slotK_lt hj
        have := hl j hj
        simp [Array.getD_eq_getD_getElem?, hlt] at this
      rcases hto with hto | hto
      · refine hdraw _ _ (h0 t ?_)
        unfold flowOutsK at hL
        rw [List.all_eq_true] at hL
        have := hL i (by simpa using hik)
        rw [hi] at this
        simp only [List.all_eq_true, Bool.or_eq_true, List.any_eq_true, List.mem_range, beq_iff_eq] at this
        rcases this t hto with h | ⟨j, _, h⟩
        · simpa using h
        · exact absurd h (hno j)
      · exact absurd (show slotK ops k i = some t by rw [slotK_of hik hi]; exact hto) (hno i)
    · intro i j s t _ hs _ _ _ hli
      exfalso
      have hlt := slotK_lt hs
      simp [Array.getD_eq_getD_getElem?, hlt] at hli
  · intro i l a w hi hI
    have hlt := ready_left hi
    obtain ⟨o, ho⟩ : ∃ o, ops[i]? = some o := ⟨_, Array.getElem?_eq_getElem hlt.1⟩
    have hE := hreadyE hi ho
    rcases hI with ⟨m, hkm, hmn, hls, hlm, hrun⟩ | ⟨hI, j0, hj0, hl0⟩
    · have him : m ≤ i := by
        rcases Nat.lt_or_ge i m with h | h
        · have := (hlm i hlt.1).2 h
          rw [hlt.2] at this
          cases this
        · exact h
      have hcl : ∀ (i : Nat) (o : Oper), ops[i]? = some o → l.getD i true = true → ∀ e ∈ o.after, Region.binds .any e = true → l.getD e.on true = true := by
        intro i' o' ho' hl' e he hb
        have hb' := hback i' o' ho' e he hb
        have hlt' : i' < ops.size := by
          rcases Nat.lt_or_ge i' ops.size with h | h
          · exact h
          · rw [Array.getElem?_eq_none h] at ho'
            cases ho'
        exact (hlm e.on (by omega)).2 (by have := (hlm i' hlt').1 hl'; omega)
      have hahead := ahead_listed hM hback hcl i o ho (fun e he hb => hlistE (hE e he hb))
      have hmi : i = m := by
        rcases Nat.lt_or_ge m i with h | h
        · rcases hT i hlt.1 with h' | h'
          · omega
          · have := hahead m (h' m (by omega))
            have := (hlm m (by omega)).1 this
            omega
        · omega
      subst hmi
      have hsz : ops.size - i = (ops.size - (i + 1)) + 1 := by omega
      rw [hsz] at hrun
      refine wpOp_mono ?_ hrun
      intro a' w' hr'
      refine .inl ⟨i + 1, by omega, by omega, by simpa using hls, fun j hj => ?_, hr'⟩
      by_cases hji : i = j
      · subst hji
        simp [Array.getD_eq_getD_getElem?, hls, hj]
      · have := hlm j hj
        simp only [Array.getD_eq_getD_getElem?, Array.getElem?_setIfInBounds, hji, if_false] at this ⊢
        rw [this]
        omega
    · have hahead := ahead_listed hM hback hI.closed i o ho (fun e he hb => hlistE (hE e he hb))
      have hik : i < k := by
        rcases Nat.lt_or_ge i k with h | h
        · exact h
        · exfalso
          rcases hT i hlt.1 with h' | h'
          · omega
          · have := hahead j0 (h' j0 (by omega))
            rw [hl0] at this
            cases this
      have hoki := hok i (by simpa using hlt.1)
      rw [ho] at hoki
      simp only [Bool.and_eq_true, List.all_eq_true, Bool.or_eq_true, bne_iff_ne, ne_eq, List.mem_range, Array.any_eq_true', beq_iff_eq, decide_eq_true_eq] at hoki
      obtain ⟨_, hlooks⟩ := hoki
      have hlooks' := hlooks.resolve_left (by omega)
      have hfacts : ∀ t, (.tmp t ∈ o.op.operands.toList ∨ ∃ g, o.guard = some g ∧ slotAt ops g.1 = some t) → F t w (a.tmps.getD t undef) := by
        intro t ht
        have hmem := looksAt_mem ht
        refine hI.facts t ⟨i, o, ho, hik, .inl hmem⟩ ?_
        intro j hj
        rcases hlooks' t hmem with h | ⟨e, he, hb, hs⟩
        · exact absurd hj (h j (slotK_lt hj))
        · rw [huniq j e.on t hj hs]
          exact hlistE (hE e he hb)
      have hst := flowStepsN_get steps (i := i) (o := o) hik (by simpa using ho) a w Q hI.B.size hfacts
      have hw := flow_wanted (ops := ops) (a := a) (o := o) (by rw [hI.size]; exact hroom)
      have next : ∀ v w', Below w.heap.size w w' → (∀ d, o.dst = some d → F d w' v ∧ (d ∈ N → v = .pointer (some ⟨w.heap.size, 0, none⟩))) → FlowJK F ops k N A W (l.setIfInBounds i true) (a.put o.dst v) w' := by
        intro v w' hb hd
        have hlst : ∀ j, j ≠ i → (l.setIfInBounds i true).getD j true = l.getD j true := by
          intro j hj
          have : i ≠ j := fun e => hj e.symm
          simp [Array.getD_eq_getD_getElem?, this]
        have hdlt : ∀ d, o.dst = some d → d < a.tmps.size := by
          intro d hd'
          rw [hI.size]
          unfold flowRoom at hroom
          rw [List.all_eq_true] at hroom
          have := hroom i (by simpa using hlt.1)
          have hs : slotAt ops i = some d := by unfold slotAt; rw [ho]; exact hd'
          rw [hs] at this
          simpa using this
        have hsl : slotK ops k i = o.dst := slotK_of hik ho
        have hold : ∀ t, (∀ j, slotK ops k j = some t → (l.setIfInBounds i true).getD j true = true) → o.dst ≠ some t → ∀ j, slotK ops k j = some t → l.getD j true = true := by
          intro t hl hne j hj
          have hne' : j ≠ i := by
            rintro rfl
            rw [hsl] at hj
            exact hne hj
          rw [← hlst j hne']
          exact hl j hj
        have hget : ∀ t, o.dst ≠ some t → (a.put o.dst v).tmps.getD t undef = a.tmps.getD t undef := by
          intro t hne
          cases hdst : o.dst with
          | none => rfl
          | some d =>
            rw [put_getD _ _ _ _ (hdlt d hdst), if_neg]
            rintro rfl
            exact hne hdst
        have hgot : ∀ t, o.dst = some t → (a.put o.dst v).tmps.getD t undef = v := by
          intro t he
          rw [he, put_getD _ _ _ _ (hdlt t he), if_pos rfl]
        refine ⟨below_next hI.B hb, by rw [put_size]; exact hI.size, ?_, by simpa using hI.lsize, ?_, ?_, ?_, ?_, ?_⟩
        · cases o.dst <;> exact hI.defers
        · intro i' o' ho' hl' e he hbd
          by_cases hii : i' = i
          · subst hii
            have e1 : o' = o := by rw [ho] at ho'; exact (Option.some.inj ho').symm
            subst e1
            by_cases hei : e.on = i'
            · have := hback i' o' ho' e he hbd
              omega
            · rw [hlst _ hei]
              exact hlistE (hE e he hbd)
          · rw [hlst i' hii] at hl'
            have := hI.closed i' o' ho' hl' e he hbd
            by_cases hei : e.on = i
            · rw [hei]
              have hls : i < l.size := by rw [hI.lsize]; exact hlt.1
              simp [Array.getD_eq_getD_getElem?, hls]
            · rw [hlst _ hei]
              exact this
        · intro j hj hjn
          rw [hlst j (by omega)]
          exact hI.rest j hj hjn
        · intro t ht hl
          by_cases he : o.dst = some t
          · rw [hgot t he]
            exact (hd t he).1
          · rw [hget t he]
            exact mono t w w' _ hb (hI.facts t ht (hold t hl he))
        · intro t ht
          have he : o.dst ≠ some t := by
            intro e
            exact ht i (by rw [hsl]; exact e)
          rw [hget t he]
          exact hI.out t ht
        · intro i1 j1 s t hij hs ht hsN htN hl1 hl2
          have fresh : ∀ j u, j ≠ i → slotK ops k j = some u → u ∈ N → (l.setIfInBounds i true).getD j true = true → ∃ g, a.tmps.getD u undef = .pointer (some ⟨g, 0, none⟩) ∧ g < w.heap.size := by
            intro j u hj hu huN hlj
            rw [hlst j hj] at hlj
            have hjk : j < k := by
              rcases Nat.lt_or_ge j k with h | h
              · exact h
              · have := hI.rest j h (slotK_lt hu)
                rw [hlj] at this
                cases this
            obtain ⟨o', ho'⟩ : ∃ o', ops[j]? = some o' := ⟨_, Array.getElem?_eq_getElem (slotK_lt hu)⟩
            refine hN u huN w _ (hI.facts u ⟨j, o', ho', hjk, .inr (by have h := (slotK_some hu).2; unfold slotAt at h; rw [ho'] at h; exact h)⟩ fun j' hj' => ?_)
            rw [huniq j' j u hj' hu]
            exact hlj
          have hnew : ∀ u, slotK ops k i = some u → u ∈ N → (a.put o.dst v).tmps.getD u undef = .pointer (some ⟨w.heap.size, 0, none⟩) := by
            intro u hu huN
            rw [hsl] at hu
            rw [hgot u hu]
            exact (hd u hu).2 huN
          have hkeep : ∀ j u, j ≠ i → slotK ops k j = some u → (a.put o.dst v).tmps.getD u undef = a.tmps.getD u undef := by
            intro j u hj hu
            refine hget u fun e => ?_
            exact hj (huniq j i u hu (by rw [hsl]; exact e))
          by_cases h1 : i1 = i
          · subst h1
            have h2 : j1 ≠ i1 := fun e => hij e.symm
            obtain ⟨g, hg, hglt⟩ := fresh j1 t h2 ht htN hl2
            rw [hnew s hs hsN, hkeep j1 t h2 ht, hg]
            intro e
            simp only [Value.pointer.injEq, Option.some.injEq, Addr.mk.injEq, and_true] at e
            omega
          · by_cases h2 : j1 = i
            · subst h2
              obtain ⟨g, hg, hglt⟩ := fresh i1 s h1 hs hsN hl1
              rw [hnew t ht htN, hkeep i1 s h1 hs, hg]
              intro e
              simp only [Value.pointer.injEq, Option.some.injEq, Addr.mk.injEq, and_true] at e
              omega
            · rw [hkeep i1 s h1 hs, hkeep j1 t h2 ht]
              rw [hlst i1 h1] at hl1
              rw [hlst j1 h2] at hl2
              exact hI.apart i1 j1 s t hij hs ht hsN htN hl1 hl2
      unfold wpOp
      rw [ho]
      simp only
      rw [hw]
      by_cases hwant : flowWanted (slotAt ops) o (fun t => a.tmps.getD t undef) = true
      · rw [if_pos hwant]
        left
        refine Oper.wp_mono ?_ (hst.1 hwant)
        rintro a' w' ⟨v, rfl, hb, hd⟩
        exact enter _ _ _ (next v w' hb hd)
      · rw [if_neg hwant]
        refine enter _ _ _ (next undef w (Below.refl _ _) fun d hd => ?_)
        have := hst.2 (by simpa using hwant) d hd
        exact ⟨this.1, fun hm => absurd hm this.2⟩
  · intro l a w hr hI
    rcases hI with ⟨m, hkm, hmn, hls, hlm, hrun⟩ | ⟨hI, j0, hj0, hl0⟩
    · have hm' : m = ops.size := by
        rcases Nat.lt_or_ge m ops.size with h | h
        · exfalso
          refine hmin hls ⟨m, h, ?_⟩ hr
          have := hlm m h
          cases hb : l.getD m true
          · rfl
          · have := this.1 hb
            omega
        · omega
      subst hm'
      simpa [runFrom] using hrun
    · exact absurd hr (hmin hI.lsize ⟨j0, by omega, hl0⟩)

end Go.Proofs.Ytdpiclmjdcjajaa

/-
  The reference's walk of differences. Conditions: at most 33 numbers, and all their differences have at most 3500 limbs.
-/
namespace Go.Proofs.Ytdpiclmjdcjajaa
open Go.RowKit Num

def slLen : Value → Nat
  | .slice _ n _ => n
  | _ => 0

def diK (b : Option Addr) (n cap K q : Nat) (F : Nat → Rat) (v : Value) : Tmp → Ke := fun t => ([.any, .any, .any, .lsa (.slice b n cap) n K F, .any, .con v, .con (.int .i64 q), .any, .any, .any, .any, .any, .any, .any, .any, .any, .any, .any, .any, .any, .any, .any, .any, .any, .any, .con v, .lsa (.slice b n cap) n K F, .con (.int .i64 q), .con (.int .i64 ((q : Int) + 1)), .elA K (F (q + 1)), .ra K (F (q + 1)), .lsa (.slice b n cap) n K F, .con (.int .i64 q), .elA K (F q), .ra K (F q), .ratC (F (q + 1) - F q), .one (F (q + 1) - F q)] : List Ke).getD t .any

set_option maxRecDepth 100000 in
set_option maxHeartbeats 8000000 in
theorem differences_any (a : Option Addr) (n cap K : Nat) (f : Nat → Rat) (w : World) (hn : n ≤ 33) (hl : LstA w (.slice a n cap) n K f) (hs : ∀ j i, j + i < n → Sz (difs f j i) K) (hK : K ≤ 7000) :
    Calls Try.prog 75 #[.slice a n cap] w (fun e w' => ∃ v, e = .returned v ∧ Lst w' v (trimN (fun k => difs f k 0) n) (fun k => difs f k 0) ∧ Below w.heap.size w w') := by
  obtain ⟨H, hH⟩ : ∃ H, (fun k => difs f k 0) = H := ⟨_, rfl⟩
  have hHk : ∀ k, difs f k 0 = H k := fun k => by rw [← hH]
  rw [hH]
  have HA := Lib.hid (And.intro hl (And.intro hs hHk))
  clear hl hs hHk hH
  go_enter Try.func75, Try.ntmps75
  go_wp2_with (at_builtin; refine wpList_append_copy rfl _ _ rfl rfl a n cap K f rfl HA.out.1 (by omega) ?_; intro v3 w1 hl1 hb1 ho1)
  have HI := Lib.hid (And.intro hl1 (And.intro hb1 ho1))
  clear hl1 hb1 ho1
  go_wp2_with fail
  go_loopw [3, 4] (fun x3 x4 wr => ∃ j m : Nat, j + m = n ∧ LstA wr x3 m K (difs f j) ∧ OutA w.heap.size j K H x4 wr ∧ Below w.heap.size w wr ∧ ∀ g, x3.ownBlock = some g → g < wr.heap.size ∧ x4.ownBlock ≠ some g) (fun x3 _ _ => slLen x3)
  case atStart => exact ⟨0, n, Nat.zero_add _, HI.out.1, OutA.nil _ _ _ _, HI.out.2.1, fun g hg => ⟨(HI.out.2.2 g hg).2, fun e => by cases e⟩⟩
  case round =>
    obtain ⟨wrA, hwA⟩ : ∃ x, x = wr := ⟨_, rfl⟩
    subst hwA
    obtain ⟨j, m, hjm, hrow, hout, hbel, hapart⟩ := hrel
    obtain ⟨a3, c3, rfl, hmc, hcm⟩ : ∃ a3 c3, u3 = .slice a3 m c3 ∧ m ≤ c3 ∧ c3 ≤ 9223372036854775807 := by
      obtain ⟨a3, c3, e, h1, h2, _⟩ := hrow
      exact ⟨a3, c3, e, h1, h2⟩
    match m, hjm, hrow, hmc with
    | 0, hjm, hrow, hmc =>
      obtain rfl : j = n := by omega
      have hHs : ∀ i, i < j → Sz (H i) K := fun i hi => by rw [← HA.out.2.2]; exact HA.out.2.1 i 0 (by omega)
      obtain ⟨a4, c4, rfl⟩ : ∃ a4 c4, u4 = .slice a4 j c4 := by
        obtain ⟨a4, c4, e, _⟩ := hout.lst
        exact ⟨a4, c4, e⟩
      have HE := Lib.hid (And.intro hout.lst (And.intro hbel hHs))
      clear hrow hout hbel hapart hHs
      go_wp2_with fail
      refine (refCanonical_list a4 j c4 K H wrA HE.out.1 (by omega) (by omega)).mono ?_
      rintro e w2 ⟨v, rfl, hv, hb2⟩
      have HF := Lib.hid (And.intro hv (below_next' HE.out.2.1 hb2))
      clear hv hb2
      go_wp2
      go_ret
      exact ⟨_, rfl, HF.out.1, HF.out.2⟩
    | r + 1, hjm, hrow, hmc =>
      have hpos : (0 : Int) < ((r + 1 : Nat) : Int) := by omega
      obtain ⟨g, o, x, y, z, rfl, c0, c1, c2, hr⟩ := hrow.elem (i := 0) (by omega)
      rw [Nat.zero_mul, Nat.add_zero] at c0 c1 c2
      have hr0 : RatA wrA (.agg #[x, y, z]) K (H j) := by rw [← HA.out.2.2]; exact hr
      have hshape := hr0.shape
      obtain ⟨s1, p1, p2, p3, p4, p5, p6, rfl, rfl, rfl⟩ := hshape
      have hb5 := below_alloc1 wrA (.cells #[.bool s1, .slice p1 p2 p3, .slice p4 p5 p6] 24)
      have hlt := (hapart g rfl).1
      have hap := (hapart g rfl).2
      have HR := Lib.hid (And.intro (hrow.below hb5) (And.intro (hout.below hb5) (And.intro (hr0.below hb5) (And.intro (below_next' hbel hb5) (And.intro hap hlt)))))
      clear hrow hout hbel hapart hr hr0 hb5 hap
      go_wp2_with (at_builtin; refine wpList_append_ratA rfl _ _ rfl w.heap.size j K H _ rfl HR.out.2.1 ⟨wrA.heap.size, 0, none⟩ 1 _ _ _ rfl (three_new _ _ _ _ _ _ rfl) HR.out.2.2.1 (by omega) HR.out.2.2.2.1.size ?_; intro v4 w3 hO3 hgr3 hown3)
      have hrow3 := HR.out.1.grow HR.out.2.1 hgr3 (fun b e => by cases e; exact HR.out.2.2.2.2.1)
      have hbel3 := HR.out.2.2.2.1.grown hgr3 HR.out.2.2.2.1.size (fun k hk => (HR.out.2.1.own k hk).1)
      have hsz3 : wrA.heap.size + 1 ≤ w3.heap.size := by have := hgr3.size; simpa using this
      have H3 := Lib.hid (And.intro hrow3 (And.intro hO3 (And.intro hbel3 (And.intro hown3 hsz3))))
      clear hrow3 hO3 hbel3 hgr3 hown3 hsz3 c0 c1 c2
      go_wp2_with fail
      go_loopw [5, 6] (fun x5 x6 w5 => ∃ q : Nat, q ≤ r ∧ x6 = .int .i64 q ∧ OutR w3.heap.size q (difs f (j + 1)) x5 w5 ∧ Below w3.heap.size w3 w5) (fun _ x6 _ => r - (intOf x6).toNat)
      case atStart => exact ⟨0, Nat.zero_le _, rfl, OutR.nil _ _ _, Below.refl _ _⟩
      case round =>
        obtain ⟨q, hq, rfl, hO, hbl⟩ := hrel
        by_cases hlt2 : q < r
        · have hqi : (q : Int) + 1 < (r : Int) + 1 := by omega
          have hqs : ¬ (9223372036854775807 < (q : Int) + 1) := by omega
          have HR5 := Lib.hid (And.intro hO (And.intro hbl (H3.out.1.below hbl)))
          clear hO hbl
          go_wp2_with fail
          refine region_flow_tailK (Fe (diK (some ⟨g, o, none⟩) (r + 1) c3 K q (difs f j) u5)) (by rfl) (Fe.mono _) 41 12 [] (by rfl) (by kernel_rfl) (by kernel_rfl) (by kernel_rfl) (by kernel_rfl) (fun t ht => by cases ht) [3, 5, 6] (by kernel_rfl) ?g0 (Fe.draw _) ?gs ?gf
          case g0 =>
            intro t ht
            simp only [List.mem_cons, List.not_mem_nil, or_false] at ht
            rcases ht with rfl | rfl | rfl
            · exact ⟨rfl, HR5.out.2.2⟩
            · rfl
            · rfl
          case gs =>
            exact ⟨flowN_of (e_move rfl) (by decide), flowN_of (e_move rfl) (by decide), flowN_of (e_move rfl) (by decide), flowN_of (e_add1 (n := (q : Int)) rfl rfl (by omega) (by omega)) (by decide), flowN_of (e_indexA (i := q + 1) rfl rfl rfl (by omega)) (by decide), flowN_of (e_loadEA rfl rfl) (by decide), flowN_of (e_move rfl) (by decide), flowN_of (e_move rfl) (by decide), flowN_of (e_indexA (i := q) rfl rfl rfl (by omega)) (by decide), flowN_of (e_loadEA rfl rfl) (by decide), flowN_of (e_sub81 rfl rfl rfl hK) (by decide), flowN_of (e_build1 rfl rfl) (by decide), trivial⟩
          intro a3 w6 hb6 hsz6 hdf6 hfacts hout6 _
          have f25 : a3.tmps.getD 25 undef = u5 := hfacts 0 25 (by decide) rfl
          have f36 : (Ke.one (difs f j (q + 1) - difs f j q)).holds w6 (a3.tmps.getD 36 undef) := hfacts 11 36 (by decide) rfl
          rw [← difs_next] at f36
          have hszn : a3.tmps.size = 41 := hsz6
          have hdfn : a3.defers = [] := hdf6
          change runFrom _ _ _ 2 12 a3 w6
          refine tail_append (d := 37) (e := 5) rfl rfl (by rw [hszn]; decide) (by rw [hszn]; decide) f25 (HR5.out.1.below hb6) f36 (by omega) (below_next' HR5.out.2.1 hb6).size ?_
          intro v5 w7 a4 hO7 hgr7 hsz7 hsza hdfa f5 hoth
          have hszn4 : a4.tmps.size = 41 := hsza.trans hszn
          have hdfn4 : a4.defers = [] := hdfa.trans hdfn
          have e0 : a4.tmps.getD 0 undef = .slice a n cap := (hoth 0 (by decide) (by decide)).trans (hout6 0 (free_ofK (by kernel_rfl)))
          have e1 : a4.tmps.getD 1 undef = undef := (hoth 1 (by decide) (by decide)).trans (hout6 1 (free_ofK (by kernel_rfl)))
          have e2 : a4.tmps.getD 2 undef = .slice none 0 0 := (hoth 2 (by decide) (by decide)).trans (hout6 2 (free_ofK (by kernel_rfl)))
          have e3 : a4.tmps.getD 3 undef = .slice (some ⟨g, o, none⟩) (r + 1) c3 := (hoth 3 (by decide) (by decide)).trans (hout6 3 (free_ofK (by kernel_rfl)))
          have e4 : a4.tmps.getD 4 undef = v4 := (hoth 4 (by decide) (by decide)).trans (hout6 4 (free_ofK (by kernel_rfl)))
          have e6 : a4.tmps.getD 6 undef = .int .i64 q := (hoth 6 (by decide) (by decide)).trans (hout6 6 (free_ofK (by kernel_rfl)))
          have e7 : a4.tmps.getD 7 undef = .slice a n cap := (hoth 7 (by decide) (by decide)).trans (hout6 7 (free_ofK (by kernel_rfl)))
          have e8 : a4.tmps.getD 8 undef = v3 := (hoth 8 (by decide) (by decide)).trans (hout6 8 (free_ofK (by kernel_rfl)))
          have e9 : a4.tmps.getD 9 undef = .slice (some ⟨g, o, none⟩) (r + 1) c3 := (hoth 9 (by decide) (by decide)).trans (hout6 9 (free_ofK (by kernel_rfl)))
          have e10 : a4.tmps.getD 10 undef = .int .i64 ((r : Int) + 1) := (hoth 10 (by decide) (by decide)).trans (hout6 10 (free_ofK (by kernel_rfl)))
          have e11 : a4.tmps.getD 11 undef = .bool true := (hoth 11 (by decide) (by decide)).trans (hout6 11 (free_ofK (by kernel_rfl)))
          have e12 : a4.tmps.getD 12 undef = u4 := (hoth 12 (by decide) (by decide)).trans (hout6 12 (free_ofK (by kernel_rfl)))
          have e13 : a4.tmps.getD 13 undef = .slice (some ⟨g, o, none⟩) (r + 1) c3 := (hoth 13 (by decide) (by decide)).trans (hout6 13 (free_ofK (by kernel_rfl)))
          have e14 : a4.tmps.getD 14 undef = .pointer (some ⟨g, o, none⟩) := (hoth 14 (by decide) (by decide)).trans (hout6 14 (free_ofK (by kernel_rfl)))
          have e15 : a4.tmps.getD 15 undef = .agg #[.bool s1, .slice p1 p2 p3, .slice p4 p5 p6] := (hoth 15 (by decide) (by decide)).trans (hout6 15 (free_ofK (by kernel_rfl)))
          have e16 : a4.tmps.getD 16 undef = .slice (some ⟨wrA.heap.size, 0, none⟩) 1 1 := (hoth 16 (by decide) (by decide)).trans (hout6 16 (free_ofK (by kernel_rfl)))
          have e17 : a4.tmps.getD 17 undef = v4 := (hoth 17 (by decide) (by decide)).trans (hout6 17 (free_ofK (by kernel_rfl)))
          have e38 : a4.tmps.getD 38 undef = u38 := (hoth 38 (by decide) (by decide)).trans (hout6 38 (free_ofK (by kernel_rfl)))
          have e39 : a4.tmps.getD 39 undef = undef := (hoth 39 (by decide) (by decide)).trans (hout6 39 (free_ofK (by kernel_rfl)))
          have e40 : a4.tmps.getD 40 undef = undef := (hoth 40 (by decide) (by decide)).trans (hout6 40 (free_ofK (by kernel_rfl)))
          have hbl7 := (below_next' HR5.out.2.1 hb6).grown hgr7 (below_next' HR5.out.2.1 hb6).size (fun k hk => ((HR5.out.1.below hb6).own k hk).1)
          have HN := Lib.hid (And.intro hO7 hbl7)
          obtain ⟨uu, hu⟩ : ∃ u : Nat → Value, ∀ t, a4.tmps.getD t undef = u t := ⟨_, fun _ => rfl⟩
          have ha := act_eq a4 41 hszn4 hdfn4
          simp only [hu] at ha e0 e1 e2 e3 e4 e6 e7 e8 e9 e10 e11 e12 e13 e14 e15 e16 e17 e38 e39 e40 f5
          have ha' : a4 = ⟨#[uu 0, uu 1, uu 2, uu 3, uu 4, uu 5, uu 6, uu 7, uu 8, uu 9, uu 10, uu 11, uu 12, uu 13, uu 14, uu 15, uu 16, uu 17, uu 18, uu 19, uu 20, uu 21, uu 22, uu 23, uu 24, uu 25, uu 26, uu 27, uu 28, uu 29, uu 30, uu 31, uu 32, uu 33, uu 34, uu 35, uu 36, uu 37, uu 38, uu 39, uu 40], []⟩ := ha
          rw [e0, e1, e2, e3, e4, e6, e7, e8, e9, e10, e11, e12, e13, e14, e15, e16, e17, e38, e39, e40, f5] at ha'
          clear ha hu e0 e1 e2 e3 e4 e6 e7 e8 e9 e10 e11 e12 e13 e14 e15 e16 e17 e38 e39 e40 f5 f25 f36 hfacts hout6 hoth hszn hdfn hszn4 hdfn4 hsza hdfa hsz6 hdf6 hb6 hO7 hgr7 hsz7 hbl7
          subst ha'
          go_wp2
          go_roundw
          case rel => exact ⟨q + 1, by omega, by go_num, HN.out⟩
          case measure => simp [intOf]; omega
        · obtain rfl : q = r := by omega
          have hqi : ¬ (q : Int) + 1 < (q : Int) + 1 := by omega
          obtain ⟨a5, c5, rfl⟩ : ∃ a5 c5, u5 = .slice a5 q c5 := by
            obtain ⟨a5, c5, e, _⟩ := hO.lst
            exact ⟨a5, c5, e⟩
          have hl5 := hO.lst.toA (k := K) fun i hi => HA.out.2.1 (j + 1) i (by omega)
          have hap : ∀ b, Value.ownBlock (.slice a5 q c5) = some b → b < wr.heap.size ∧ v4.ownBlock ≠ some b := fun b hb => ⟨(hO.own b hb).2, fun e => by have h1 := (H3.out.2.1.own b e).2; have h2 := (hO.own b hb).1; omega⟩
          have HN := Lib.hid (And.intro hl5 (And.intro (H3.out.2.1.below hbl) (And.intro (below_next' H3.out.2.2.1 hbl) hap)))
          clear hO hbl hl5 hap hlt2
          go_wp2
          go_roundw
          case rel => exact ⟨j + 1, q, by omega, HN.out⟩
          case measure => simp [slLen]
end Go.Proofs.Ytdpiclmjdcjajaa

/-
  The walk of transform, whatever function it is given. Conditions: at most 33 numbers; the function answers a list of at most 40 numbers; with the scale, 9990 limbs in all.
-/
namespace Go.Proofs.Ytdpiclmjdcjajaa
open Go.RowKit Num

/-- A variable of a list and its scale. -/
def Ke.b80 (v0 : Value) (n : Nat) (f : Nat → Rat) (S : Rat) : Ke := ⟨fun w v => ∃ g x y z, v = .pointer (some ⟨g, 0, none⟩) ∧ w.cell? ⟨g, 0, none⟩ = some v0 ∧ Lst w v0 n f ∧ w.cell? ⟨g, 1, none⟩ = some x ∧ w.cell? ⟨g, 2, none⟩ = some y ∧ w.cell? ⟨g, 3, none⟩ = some z ∧ RatC w (.agg #[x, y, z]) S,
  fun hb ⟨g, x, y, z, e, c, hl, c0, c1, c2, h⟩ => ⟨g, x, y, z, e, cell_below hb c, hl.below hb, cell_below hb c0, cell_below hb c1, cell_below hb c2, h.below hb⟩⟩
def Ke.c80 (v0 : Value) (n : Nat) (f : Nat → Rat) : Ke := ⟨fun w v => ∃ g, v = .pointer (some ⟨g, 0, none⟩) ∧ w.cell? ⟨g, 0, none⟩ = some v0 ∧ Lst w v0 n f, fun hb ⟨g, e, c, hl⟩ => ⟨g, e, cell_below hb c, hl.below hb⟩⟩
/-- Any list of these numbers. -/
def Ke.lsv (n : Nat) (f : Nat → Rat) : Ke := ⟨fun w v => Lst w v n f, fun hb h => h.below hb⟩
def Ke.scv (n : Nat) (f : Nat → Rat) (S : Rat) : Ke := ⟨fun w v => ∃ a cap s an ln cn ad ld cd, v = .agg #[.slice a n cap, .bool s, .slice an ln cn, .slice ad ld cd] ∧ Lst w (.slice a n cap) n f ∧ RatC w (.agg #[.bool s, .slice an ln cn, .slice ad ld cd]) S,
  fun hb ⟨a, cap, s, an, ln, cn, ad, ld, cd, e, h1, h2⟩ => ⟨a, cap, s, an, ln, cn, ad, ld, cd, e, h1.below hb, h2.below hb⟩⟩

section
variable {κ : Tmp → Ke} {G : Nat → Option Tmp} {d s t u c : Tmp} {ty : TypeId} {pos : String} {es : Array Edge} {k k' B n n' : Nat} {p q S : Rat} {f f' : Nat → Rat} {v0 : Value}
theorem run_fa800 (a : Act) (d : Option Tmp) (ty : TypeId) (pos : String) (es : Array Edge) (t : Tmp) (w : World) (g : Nat) (h : a.tmps.getD t undef = .pointer (some ⟨g, 0, none⟩)) :
    Sem.run Try.prog (execOp a.eval ⟨d, .fieldAddr 80 (.tmp t) 0, ty, pos, es, none⟩) w = .ok (.value (.pointer (some ⟨g, 0, none⟩))) w := by go_simp
set_option maxRecDepth 100000 in
theorem e_fa800 (ht : κ t = .b80 v0 n f S) (hd : κ d = .c80 v0 n f) : FlowStep Try.prog (Fe κ) G ⟨some d, .fieldAddr 80 (.tmp t) 0, ty, pos, es, none⟩ := by
  refine e_step rfl fun a w Q hf => ?_
  have h := hf t (by simp [Op.operands])
  rw [ht] at h
  obtain ⟨g, x, y, z, e, c, hl, _⟩ := (show ∃ g x y z, a.tmps.getD t undef = .pointer (some ⟨g, 0, none⟩) ∧ w.cell? ⟨g, 0, none⟩ = some v0 ∧ Lst w v0 n f ∧ w.cell? ⟨g, 1, none⟩ = some x ∧ w.cell? ⟨g, 2, none⟩ = some y ∧ w.cell? ⟨g, 3, none⟩ = some z ∧ RatC w (.agg #[x, y, z]) S from h)
  unfold Oper.wp
  rw [run_fa800 _ _ _ _ _ _ _ g e, Oper.upon_value]
  exact ⟨_, rfl, Below.refl _ _, fun d' hd' => by cases hd'; rw [hd]; exact ⟨g, rfl, c, hl⟩⟩
set_option maxRecDepth 100000 in
theorem e_fa801 (ht : κ t = .b80 v0 n f S) (hd : κ d = .elC S) : FlowStep Try.prog (Fe κ) G ⟨some d, .fieldAddr 80 (.tmp t) 1, ty, pos, es, none⟩ := by
  refine e_step rfl fun a w Q hf => ?_
  have h := hf t (by simp [Op.operands])
  rw [ht] at h
  obtain ⟨g, x, y, z, e, _, _, c0, c1, c2, hr⟩ := (show ∃ g x y z, a.tmps.getD t undef = .pointer (some ⟨g, 0, none⟩) ∧ w.cell? ⟨g, 0, none⟩ = some v0 ∧ Lst w v0 n f ∧ w.cell? ⟨g, 1, none⟩ = some x ∧ w.cell? ⟨g, 2, none⟩ = some y ∧ w.cell? ⟨g, 3, none⟩ = some z ∧ RatC w (.agg #[x, y, z]) S from h)
  unfold Oper.wp
  rw [run_fa80 _ _ _ _ _ _ _ g e, Oper.upon_value]
  exact ⟨_, rfl, Below.refl _ _, fun d' hd' => by cases hd'; rw [hd]; exact ⟨g, 1, x, y, z, rfl, c0, c1, c2, hr⟩⟩
theorem run_load32 (a : Act) (d : Option Tmp) (ty : TypeId) (pos : String) (es : Array Edge) (t : Tmp) (w : World) (g : Nat) (b : Option Addr) (n c : Nat) (h : a.tmps.getD t undef = .pointer (some ⟨g, 0, none⟩)) (hc : w.cell? ⟨g, 0, none⟩ = some (.slice b n c)) :
    Sem.run Try.prog (execOp a.eval ⟨d, .load 32 (.tmp t), ty, pos, es, none⟩) w = .ok (.value (.slice b n c)) w := by go_simp
theorem e_load32 {b : Option Addr} {cap : Nat} (ht : κ t = .c80 (.slice b n cap) n f) (hd : κ d = .lst (.slice b n cap) n f) : FlowStep Try.prog (Fe κ) G ⟨some d, .load 32 (.tmp t), ty, pos, es, none⟩ := by
  refine e_step rfl fun a w Q hf => ?_
  have h := hf t (by simp [Op.operands])
  rw [ht] at h
  obtain ⟨g, e, c, hl⟩ := (show ∃ g, a.tmps.getD t undef = .pointer (some ⟨g, 0, none⟩) ∧ w.cell? ⟨g, 0, none⟩ = some (.slice b n cap) ∧ Lst w (.slice b n cap) n f from h)
  unfold Oper.wp
  rw [run_load32 _ _ _ _ _ _ _ g b n cap e c, Oper.upon_value]
  exact ⟨_, rfl, Below.refl _ _, fun d' hd' => by cases hd'; rw [hd]; exact ⟨rfl, hl⟩⟩
/-- What a function value does with a list. -/
def FunOk (fv : Value) (F : FuncId) (ca : Value → Array Value) (n : Nat) (f : Nat → Rat) (n' : Nat) (f' : Nat → Rat) (W : World) : Prop :=
  (∀ (a : Act) (d : Option Tmp) (ty : TypeId) (pos : String) (es : Array Edge) (t u : Tmp) (w : World) (x : Value), a.tmps.getD t undef = fv → a.tmps.getD u undef = x → Sem.run Try.prog (execOp a.eval ⟨d, .call ⟨.value (.tmp t), #[.tmp u], #[32]⟩, ty, pos, es, none⟩) w = .ok (.enter F (ca x)) w) ∧
  ∀ (w : World) (b : Option Addr) (cap : Nat), Below W.heap.size W w → Lst w (.slice b n cap) n f → Calls Try.prog F (ca (.slice b n cap)) w (fun e w' => ∃ v, e = .returned v ∧ Lst w' v n' f' ∧ Below w.heap.size w w')
/-- That the world has grown since. -/
def Ke.since (W : World) (κ : Ke) : Ke := ⟨fun w v => κ.holds w v ∧ Below W.heap.size W w, fun hb h => ⟨κ.below hb h.1, below_next h.2 hb⟩⟩
theorem e_callF {W : World} {fv : Value} {F : FuncId} {ca : Value → Array Value} {b : Option Addr} {cap : Nat} (hF : FunOk fv F ca n f n' f' W) (ht : κ t = .since W (.con fv)) (hu : κ u = .lst (.slice b n cap) n f) (hd : κ d = .lsv n' f') :
    FlowStep Try.prog (Fe κ) G ⟨some d, .call ⟨.value (.tmp t), #[.tmp u], #[32]⟩, ty, pos, es, none⟩ := by
  refine e_step rfl fun a w Q hf => ?_
  have h := hf t (by simp [Op.operands, Call.operands])
  have h' := hf u (by simp [Op.operands, Call.operands])
  rw [ht] at h
  rw [hu] at h'
  obtain ⟨e1, h1⟩ := (show a.tmps.getD t undef = fv ∧ Below W.heap.size W w from h)
  obtain ⟨e2, h2⟩ := (show a.tmps.getD u undef = .slice b n cap ∧ Lst w _ n f from h')
  rw [e2] at h2
  unfold Oper.wp
  rw [hF.1 _ _ _ _ _ _ _ _ _ e1 e2, Oper.upon_enter]
  refine (hF.2 w b cap h1 h2).mono ?_
  rintro e w' ⟨v, rfl, hv, hb⟩
  exact ⟨_, rfl, hb, fun d' hd' => by cases hd'; rw [hd]; exact hv⟩
set_option maxRecDepth 100000 in
theorem e_build80v (ht : κ t = .lsv n f) (hu : κ u = .ratC S) (hd : κ d = .scv n f S) : FlowStep Try.prog (Fe κ) G ⟨some d, .build 80 #[(0, .tmp t), (1, .tmp u)], ty, pos, es, none⟩ := by
  refine e_step rfl fun a w Q hf' => ?_
  have h := hf' t (by simp [Op.operands])
  have h' := hf' u (by simp [Op.operands])
  rw [ht] at h
  rw [hu] at h'
  have h1 : Lst w (a.tmps.getD t undef) n f := h
  have h2 : RatC w (a.tmps.getD u undef) S := h'
  obtain ⟨b, cap, e, _⟩ := id h1
  obtain ⟨an, ln, cn, ad, ld, cd, ev, _⟩ := id h2
  rw [e] at h1
  rw [ev] at h2
  unfold Oper.wp
  rw [run_build80 _ _ _ _ _ _ _ _ _ _ _ _ _ _ _ rfl e ev, Oper.upon_value]
  exact ⟨_, rfl, Below.refl _ _, fun d' hd' => by cases hd'; rw [hd]; exact ⟨b, cap, _, _, _, _, _, _, _, rfl, h1, h2⟩⟩
theorem c1_74 (a : Act) (d : Option Tmp) (ty : TypeId) (pos : String) (es : Array Edge) (t : Tmp) (w : World) :
    Sem.run Try.prog (execOp a.eval ⟨d, .call ⟨.value (.func 74), #[.tmp t], #[80]⟩, ty, pos, es, none⟩) w = .ok (.enter 74 #[a.tmps.getD t undef]) w := by go_simp
set_option maxRecDepth 100000 in
theorem e_scanon {K : Nat} (ht : κ t = .scv n f S) (hd : κ d = .lsv (trimN (fun i => f i * (1 / S)) n) (fun i => f i * (1 / S))) (hn : n ≤ 40) (hf : ∀ i, i < n → Sz (f i) k) (hz : Sz S K) (hk : k + K ≤ 9990) :
    FlowStep Try.prog (Fe κ) G ⟨some d, .call ⟨.value (.func 74), #[.tmp t], #[80]⟩, ty, pos, es, none⟩ := by
  refine e_step rfl fun a w Q hf' => ?_
  have h := hf' t (by simp [Op.operands, Call.operands])
  rw [ht] at h
  obtain ⟨b, cap, s, an, ln, cn, ad, ld, cd, e, h1, h2⟩ := (show ∃ b cap s an ln cn ad ld cd, a.tmps.getD t undef = .agg #[.slice b n cap, .bool s, .slice an ln cn, .slice ad ld cd] ∧ Lst w (.slice b n cap) n f ∧ RatC w (.agg #[.bool s, .slice an ln cn, .slice ad ld cd]) S from h)
  unfold Oper.wp
  rw [c1_74, e, Oper.upon_enter]
  refine (scanon_any b n cap k K f S s an ln cn ad ld cd w hn h1 h2 hf hz hk).mono ?_
  rintro e w' ⟨v, rfl, hv, hb⟩
  exact ⟨_, rfl, hb, fun d' hd' => by cases hd'; rw [hd]; exact hv⟩
theorem e_assignC (hd : κ d = .con v0) : FlowStep Try.prog (Fe κ) G ⟨some d, .assign (.const v0), ty, pos, es, none⟩ := by
  refine e_step rfl fun a w Q _ => ?_
  unfold Oper.wp execOp
  simp only [Sem.run_pure, Oper.upon_value]
  exact ⟨_, rfl, Below.refl _ _, fun d' hd' => by cases hd'; rw [hd]; rfl⟩
end

def trK (W : World) (fv v0 : Value) (n n' : Nat) (f f' : Nat → Rat) (S : Rat) : Tmp → Ke := fun t => ([.any, .since W (.con fv), .any, .any, .lsv (trimN (fun i => f' i * (1 / S)) n') (fun i => f' i * (1 / S)), .con (.bool true), .b80 v0 n f S, .any, .any, .any, .any, .any, .since W (.con fv), .c80 v0 n f, .lst v0 n f, .lsv n' f', .elC S, .ratC S, .scv n' f' S, .lsv (trimN (fun i => f' i * (1 / S)) n') (fun i => f' i * (1 / S))] : List Ke).getD t .any

set_option maxRecDepth 100000 in
set_option maxHeartbeats 8000000 in
theorem transform_gen (a : Option Addr) (n cap n' k kl kz KS : Nat) (f f' : Nat → Rat) (fv : Value) (F : FuncId) (ca : Value → Array Value) (w : World) (hn : n ≤ 33) (hl : LstA w (.slice a n cap) n kl f) (hf : ∀ i, i < n → Sz (f i) kz) (hk1 : 1 ≤ kz) (hkk : kl ≤ kz) (hKS : kz * n + 1 ≤ KS) (hKz : KS + kz ≤ 5000)
    (hF : FunOk fv F ca n (fun i => f i * ((scl f n : Nat) : Rat)) n' f' w) (hn' : n' ≤ 40) (hf' : ∀ i, i < n' → Sz (f' i) k) (hk : k + KS ≤ 9990) :
    Calls Try.prog 76 #[.slice a n cap, fv] w (ListB (trimN (fun i => f' i * (1 / ((scl f n : Nat) : Rat))) n') (fun i => f' i * (1 / ((scl f n : Nat) : Rat))) true w) := by
  have hsc : Sz ((scl f n : Nat) : Rat) KS := sz_le (sz_natR (scl_lt hf n (Nat.le_refl _)) (by omega)) hKS
  have hcall := scaleA_any a n cap kl kz KS f w hn hl hf hk1 hkk hKS (by omega)
  obtain ⟨S, hS⟩ : ∃ S, ((scl f n : Nat) : Rat) = S := ⟨_, rfl⟩
  rw [hS] at hsc hcall hF ⊢
  obtain ⟨P, hP⟩ : ∃ P, (fun i => f i * S) = P := ⟨_, rfl⟩
  rw [hP] at hcall hF
  have HA := Lib.hid (And.intro hcall (And.intro hF (And.intro hf' hsc)))
  clear hl hf hF hf' hsc hcall hS hP
  go_enter Try.func76, Try.ntmps76
  go_wp2_with fail
  refine HA.out.1.mono ?_
  rintro e w1 ⟨v, rfl, hv, hb1⟩
  obtain ⟨B, g, s, an, ln, cn, ad, ld, cd, rfl, hL, hR⟩ := hv
  have hb2 := below_alloc1 w1 (.cells #[.slice (some ⟨g, 0, none⟩) n n, .bool s, .slice an ln cn, .slice ad ld cd] 80)
  have hB2 := BoxV.new w1 w1.heap.size 80 (Nat.le_refl _) [.slice (some ⟨g, 0, none⟩) n n, .bool s, .slice an ln cn, .slice ad ld cd]
  have hb : (Ke.b80 (.slice (some ⟨g, 0, none⟩) n n) n P S).holds (w1.alloc (.cells #[.slice (some ⟨g, 0, none⟩) n n, .bool s, .slice an ln cn, .slice ad ld cd] 80)) (.pointer (some ⟨w1.heap.size, 0, none⟩)) :=
    ⟨_, _, _, _, rfl, hB2.cell 0 (by simp), (hL.lst (cap := n) (Nat.le_refl _) (by omega)).below hb2, hB2.cell 1 (by simp), hB2.cell 2 (by simp), hB2.cell 3 (by simp), hR.below hb2⟩
  have H1 := Lib.hid (And.intro hb (below_next' hb1 hb2))
  clear hb hb1 hb2 hB2 hL hR
  go_wp2_with fail
  refine region_flow (Fe (trK w fv (.slice (some ⟨g, 0, none⟩) n n) n n' P f' S)) (by rfl) (Fe.mono _) 20 (by rfl) (by kernel_rfl) (by kernel_rfl) [1, 6] (by kernel_rfl) ?g0 (Fe.draw _) ?gs ?gf
  case g0 =>
    intro t ht
    simp only [List.mem_cons, List.not_mem_nil, or_false] at ht
    rcases ht with rfl | rfl
    · exact ⟨rfl, H1.out.2⟩
    · exact H1.out.1
  case gs =>
    exact ⟨e_move rfl, e_fa800 rfl rfl, e_load32 rfl rfl, e_callF HA.out.2.1 rfl rfl rfl, e_fa801 rfl rfl, e_loadEC rfl rfl, e_build80v rfl rfl rfl, e_scanon rfl rfl hn' HA.out.2.2.1 HA.out.2.2.2 hk, e_assign rfl, e_assignC rfl, trivial⟩
  case gf =>
    intro a3 w3 hb3 hsz3 hdf3 hfacts hout
    have f4 : Lst w3 (a3.tmps.getD 4 undef) (trimN (fun i => f' i * (1 / S)) n') (fun i => f' i * (1 / S)) := hfacts 8 4 rfl
    have e5 : a3.tmps.getD 5 undef = .bool true := hfacts 9 5 rfl
    have hdfn : a3.defers = [] := hdf3
    obtain ⟨v4, e4⟩ : ∃ v, a3.tmps.getD 4 undef = v := ⟨_, rfl⟩
    rw [e4] at f4
    have HF := Lib.hid (And.intro f4 (below_next' H1.out.2 hb3))
    clear f4 hb3 hfacts hout hsz3 hdf3
    rw [Array.getD_eq_getD_getElem?] at e4 e5
    go_wp2_with fail
    exact bodyPost_ret (v := .tuple #[v4, .bool true]) (by simp [results, Try.results76, go_sem, e4, e5]) hdfn ⟨_, rfl, HF.out.1, HF.out.2⟩
end Go.Proofs.Ytdpiclmjdcjajaa

/-
  The walk of the function that Differences gives to transform. Conditions: at most 33 canonical numbers whose differences have at most 9000 limbs.
-/
namespace Go.Proofs.Ytdpiclmjdcjajaa
open Go.RowKit Num

theorem Lst.kept {w w' : World} {a : Option Addr} {n cap : Nat} {f : Nat → Rat} {B g t : Nat} {xs : List Value} (h : Lst w (.slice a n cap) n f) (hb : BoxV w B g t xs) (hx : NoLimb xs) (hg : w.grownBy w' (some g)) (hne : 0 < n → ∀ b, a = some b → b.block ≠ g) : Lst w' (.slice a n cap) n f := by
  obtain ⟨a', cap', e, h1, h2, h3⟩ := h
  obtain ⟨rfl, rfl⟩ : a = a' ∧ cap = cap' := by simpa using e
  refine ⟨_, _, rfl, h1, h2, fun i hi => ?_⟩
  obtain ⟨g', o, x, y, z, rfl, c0, c1, c2, hr⟩ := h3 i hi
  have hn := hne (by omega) _ rfl
  have cell : ∀ j u, w.cell? ⟨g', j, none⟩ = some u → w'.cell? ⟨g', j, none⟩ = some u := fun j u hc => hg.cell hc (by simpa using hn)
  exact ⟨g', o, x, y, z, rfl, cell _ _ c0, cell _ _ c1, cell _ _ c2, hr.other hb hx hg⟩
theorem Lst.congr {w : World} {v : Value} {n : Nat} {f g : Nat → Rat} (h : Lst w v n f) (e : ∀ i, i < n → f i = g i) : Lst w v n g := by
  obtain ⟨a, cap, ev, h1, h2, h3⟩ := h
  refine ⟨a, cap, ev, h1, h2, fun i hi => ?_⟩
  rw [← e i hi]
  exact h3 i hi
theorem LstA.from {w : World} {g o n cap k m : Nat} {f : Nat → Rat} (h : LstA w (.slice (some ⟨g, o, none⟩) n cap) n k f) (hm : m ≤ n) : LstA w (.slice (if cap = m then some ⟨g, o, none⟩ else some ⟨g, o + m * 3, none⟩) (n - m) (cap - m)) (n - m) k (fun i => f (m + i)) := by
  obtain ⟨a', cap', e, h1, h2, h3⟩ := h
  obtain ⟨rfl, rfl⟩ : some ⟨g, o, none⟩ = a' ∧ cap = cap' := by simpa using e
  refine ⟨_, _, rfl, by omega, by omega, fun i hi => ?_⟩
  obtain ⟨g', o', x, y, z, e', c0, c1, c2, hr⟩ := h3 (m + i) (by omega)
  obtain ⟨rfl, rfl⟩ : g = g' ∧ o = o' := by simpa using e'
  rw [if_neg (by omega)]
  refine ⟨g, o + m * 3, x, y, z, rfl, ?_, ?_, ?_, hr⟩
  · rw [show o + m * 3 + i * 3 = o + (m + i) * 3 by omega]; exact c0
  · rw [show o + m * 3 + (i * 3 + 1) = o + ((m + i) * 3 + 1) by omega]; exact c1
  · rw [show o + m * 3 + (i * 3 + 2) = o + ((m + i) * 3 + 2) by omega]; exact c2

/-- Any list of numbers in any form. -/
def Ke.lav (n k : Nat) (f : Nat → Rat) : Ke := ⟨fun w v => LstA w v n k f, fun hb h => h.below hb⟩
/-- A new list. -/
def Ke.lsn (B n : Nat) (f : Nat → Rat) : Ke := ⟨fun w v => ∃ g, v = .slice (some ⟨g, 0, none⟩) n n ∧ B ≤ g ∧ g < w.heap.size ∧ Lst w v n f, fun hb ⟨g, e, h1, h2, h⟩ => ⟨g, e, h1, Nat.lt_of_lt_of_le h2 hb.size, h.below hb⟩⟩
theorem since_lsa {W w : World} {v0 v : Value} {n K : Nat} {f : Nat → Rat} (h : (Ke.since W (.lsa v0 n K f)).holds w v) : (v = v0 ∧ LstA w v n K f) ∧ Below W.heap.size W w := h
section
variable {κ : Tmp → Ke} {G : Nat → Option Tmp} {d s t u c : Tmp} {ty : TypeId} {pos : String} {es : Array Edge} {k k' K B n m : Nat} {p q S : Rat} {f f' : Nat → Rat} {v0 : Value} {W : World}
theorem run_from1 (a : Act) (d : Option Tmp) (ty : TypeId) (pos : String) (es : Array Edge) (t : Tmp) (w : World) (g o n c : Nat) (h : a.tmps.getD t undef = .slice (some ⟨g, o, none⟩) n c) (h1 : 1 ≤ n) :
    Sem.run Try.prog (execOp a.eval ⟨d, .slice 32 (.tmp t) (some (.const (.int .i64 1))) none none, ty, pos, es, none⟩) w = .ok (.value (.slice (if c = 1 then some ⟨g, o, none⟩ else some ⟨g, o + 1 * 3, none⟩) (n - 1) (c - 1))) w := by
  have h1' : (1 : Int) ≤ (n : Int) := by omega
  go_simp
set_option maxRecDepth 100000 in
theorem e_from (ht : κ t = .since W (.lsa v0 n K f)) (hd : κ d = .since W (.lav (n - 1) K f')) (hf : ∀ i, f (1 + i) = f' i) (hn : 1 ≤ n) : FlowStep Try.prog (Fe κ) G ⟨some d, .slice 32 (.tmp t) (some (.const (.int .i64 1))) none none, ty, pos, es, none⟩ := by
  obtain rfl : (fun i => f (1 + i)) = f' := funext hf
  refine e_step rfl fun a w Q hf => ?_
  have h := hf t (by simp [Op.operands])
  rw [ht] at h
  obtain ⟨⟨e, hl⟩, hb⟩ := since_lsa h
  rw [e] at hl
  obtain ⟨b, cap, rfl, h1, h2, _⟩ := id hl
  obtain ⟨g, o, _, _, _, rfl, _⟩ := hl.elem (i := 0) (by omega)
  unfold Oper.wp
  rw [run_from1 _ _ _ _ _ _ _ g o n cap e hn, Oper.upon_value]
  exact ⟨_, rfl, Below.refl _ _, fun d' hd' => by cases hd'; rw [hd]; exact ⟨hl.from hn, hb⟩⟩
theorem run_toT (a : Act) (d : Option Tmp) (ty : TypeId) (pos : String) (es : Array Edge) (t u : Tmp) (w : World) (g o n c m : Nat) (h : a.tmps.getD t undef = .slice (some ⟨g, o, none⟩) n c) (h' : a.tmps.getD u undef = .int .i64 m) (h1 : m ≤ n) (h2 : n ≤ c) :
    Sem.run Try.prog (execOp a.eval ⟨d, .slice 32 (.tmp t) none (some (.tmp u)) none, ty, pos, es, none⟩) w = .ok (.value (.slice (some ⟨g, o, none⟩) m c)) w := by
  have h4 : m ≤ c := by omega
  go_simp
set_option maxRecDepth 100000 in
theorem e_to {z : Int} (ht : κ t = .since W (.lsa v0 n K f)) (hu : κ u = .con (.int .i64 z)) (hz : z = (m : Int)) (hd : κ d = .lav m K f) (hn : 1 ≤ n) (hm : m ≤ n) : FlowStep Try.prog (Fe κ) G ⟨some d, .slice 32 (.tmp t) none (some (.tmp u)) none, ty, pos, es, none⟩ := by
  subst hz
  refine e_step rfl fun a w Q hf => ?_
  have h := hf t (by simp [Op.operands])
  have h' := hf u (by simp [Op.operands])
  rw [ht] at h
  rw [hu] at h'
  obtain ⟨⟨e, hl⟩, hb⟩ := since_lsa h
  rw [e] at hl
  obtain ⟨b, cap, rfl, h1, h2, _⟩ := id hl
  obtain ⟨g, o, _, _, _, rfl, _⟩ := hl.elem (i := 0) (by omega)
  unfold Oper.wp
  rw [run_toT _ _ _ _ _ _ _ _ g o n cap m e h' hm h1, Oper.upon_value]
  exact ⟨_, rfl, Below.refl _ _, fun d' hd' => by cases hd'; rw [hd]; exact hl.cut hm⟩
theorem run_lenT (a : Act) (d : Option Tmp) (ty : TypeId) (pos : String) (es : Array Edge) (t : Tmp) (w : World) (b : Option Addr) (n c : Nat) (h : a.tmps.getD t undef = .slice b n c) :
    Sem.run Try.prog (execOp a.eval ⟨d, .call ⟨.builtin .len, #[.tmp t], #[32]⟩, ty, pos, es, none⟩) w = .ok (.value (.int .i64 n)) w := by go_simp
theorem e_len (ht : κ t = .since W (.lsa v0 n K f)) (hd : κ d = .con (.int .i64 n)) : FlowStep Try.prog (Fe κ) G ⟨some d, .call ⟨.builtin .len, #[.tmp t], #[32]⟩, ty, pos, es, none⟩ := by
  refine e_step rfl fun a w Q hf => ?_
  have h := hf t (by simp [Op.operands, Call.operands])
  rw [ht] at h
  obtain ⟨⟨e, hl⟩, hb⟩ := since_lsa h
  rw [e] at hl
  obtain ⟨b, cap, rfl, h1, h2, _⟩ := id hl
  unfold Oper.wp
  rw [run_lenT _ _ _ _ _ _ _ b n cap e, Oper.upon_value]
  exact ⟨_, rfl, Below.refl _ _, fun d' hd' => by cases hd'; rw [hd]; rfl⟩
theorem run_subC (a : Act) (d : Option Tmp) (ty : TypeId) (pos : String) (es : Array Edge) (t : Tmp) (w : World) (n : Int) (h : a.tmps.getD t undef = .int .i64 n) (h1 : 0 ≤ n) (h2 : n ≤ 1000) :
    Sem.run Try.prog (execOp a.eval ⟨d, .binOp .sub 3 (.tmp t) (.const (.int .i64 1)) 3, ty, pos, es, none⟩) w = .ok (.value (.int .i64 (n - 1))) w := by
  have hw : IntKind.i64.wrap (n - 1) = n - 1 := IntWalk.i64_in _ (by omega)
  go_simp
theorem e_subC {z : Int} (ht : κ t = .con (.int .i64 z)) (hd : κ d = .con (.int .i64 (z - 1))) (h1 : 0 ≤ z) (h2 : z ≤ 1000) : FlowStep Try.prog (Fe κ) G ⟨some d, .binOp .sub 3 (.tmp t) (.const (.int .i64 1)) 3, ty, pos, es, none⟩ := by
  refine e_step rfl fun a w Q hf => ?_
  have h := hf t (by simp [Op.operands])
  rw [ht] at h
  unfold Oper.wp
  rw [run_subC _ _ _ _ _ _ _ z h h1 h2, Oper.upon_value]
  exact ⟨_, rfl, Below.refl _ _, fun d' hd' => by cases hd'; rw [hd]; rfl⟩
theorem callFunc85 (x y : Value) (w : World) : Sem.run Try.prog (callFunc 85 #[x, y]) w = .ok (.enter 85 #[x, y]) w := by go_simp
theorem run_comb85 (a : Act) (d : Option Tmp) (ty : TypeId) (pos : String) (es : Array Edge) (t u : Tmp) (w : World) :
    Sem.run Try.prog (execOp a.eval ⟨d, .call ⟨.value (.func 69), #[.tmp t, .tmp u, .func 85], #[32, 32, 45]⟩, ty, pos, es, none⟩) w = .ok (.enter 69 #[a.tmps.getD t undef, a.tmps.getD u undef, .func (.func 85) #[] #[]]) w := by go_simp
set_option maxRecDepth 100000 in
theorem e_comb85 (ht : κ t = .since W (.lav n K f)) (hu : κ u = .lav n K f') (hd : κ d = .lsn W.heap.size n (fun i => f i - f' i)) (hn : n ≤ 40) (hk : K ≤ 20000) : FlowStep Try.prog (Fe κ) G ⟨some d, .call ⟨.value (.func 69), #[.tmp t, .tmp u, .func 85], #[32, 32, 45]⟩, ty, pos, es, none⟩ := by
  refine e_step rfl fun a w Q hf => ?_
  have h := hf t (by simp [Op.operands, Call.operands])
  have h' := hf u (by simp [Op.operands, Call.operands])
  rw [ht] at h
  rw [hu] at h'
  obtain ⟨hl, hb⟩ := (show LstA w (a.tmps.getD t undef) n K f ∧ Below W.heap.size W w from h)
  have hl' : LstA w (a.tmps.getD u undef) n K f' := h'
  unfold Oper.wp
  rw [run_comb85, Oper.upon_enter]
  refine (combine_same 85 (fun a b => a - b) _ _ n K K f f' w hl hl' hn callFunc85 (fun w x y p q hx hy => sub_a (k := K) hx hy hk)).mono ?_
  rintro e w' ⟨g, rfl, hL, hb'⟩
  have hlt : w.heap.size ≤ g ∧ g < w'.heap.size := by obtain ⟨xs, l1, _⟩ := hL; exact l1.block
  have h1 := hb.size
  exact ⟨_, rfl, hb', fun d' hd' => by cases hd'; rw [hd]; exact ⟨g, rfl, by omega, hlt.2, hL.lst (Nat.le_refl _) (by omega)⟩⟩
end
/-- A slot gets its value at the region's end. -/
theorem tail_move {ops : Array Oper} {Q : Exit → Act → World → Prop} {m d e : Nat} {v : Value} {a : Act} {w : World} {ty : TypeId} {pos : String} {es : Array Edge}
    (ho : ops[m]? = some ⟨some e, .assign (.tmp d), ty, pos, es, none⟩) (he : e < a.tmps.size) (hv : a.tmps.getD d undef = v)
    (h : ∀ a', a'.tmps.size = a.tmps.size → a'.defers = a.defers → a'.tmps.getD e undef = v → (∀ t, t ≠ e → a'.tmps.getD t undef = a.tmps.getD t undef) → Q .normal a' w) : runFrom Try.prog ops Q 1 m a w := by
  show wpOp Try.prog ops Q m (runFrom Try.prog ops Q 0 (m + 1)) a w
  unfold wpOp
  rw [ho]
  simp only [Region.wanted, if_true]
  left
  unfold Oper.wp execOp
  simp only [Sem.run_pure, Oper.upon_value]
  have hv' : a.eval (.tmp d) = v := hv
  rw [hv']
  exact h _ (by rw [put_size]) rfl (by rw [put_getD _ _ _ _ he, if_pos rfl]) fun t ht => by rw [put_getD _ _ _ _ he, if_neg (fun e => ht e.symm)]

end Go.Proofs.Ytdpiclmjdcjajaa

/-
  The walk of the law BinomialDifferences: for every list that can be read it returns true. No conditions.
-/
namespace Go.Proofs.Ytdpiclmjdcjajaa
open Go.RowKit Num

def RatsP34 (n : Nat) (sm : Nat → Bool) (w : World) (e : Ending) (w' : World) : Prop := ∃ b, e = .returned (.bool b) ∧ (b = true → n ≤ 34 ∧ ∀ i, i < n → sm i = true) ∧ Below w.heap.size w w'

set_option maxHeartbeats 2000000 in
theorem rats34_any (a : Option Addr) (n cap : Nat) (f : Nat → Rat) (sm : Nat → Bool) (w : World) (hn : n ≤ 9223372036854775807) (h : ∀ i, i < n → ElemAt w a i f sm) :
    Calls Try.prog 24 #[.slice a n cap, .int .i64 34] w (RatsP34 n sm w) := by
  go_enter Try.func24, Try.ntmps24
  go_wp2
  go_loopw [5] (fun i wr => ∃ q : Nat, i = .int .i64 q ∧ q ≤ n ∧ q ≤ 35 ∧ (∀ j, j < q → sm j = true) ∧ Below w.heap.size w wr) (fun i _ => 35 - (intOf i).toNat)
  case atStart => exact ⟨0, rfl, Nat.zero_le _, by omega, fun j hj => by omega, Below.refl _ _⟩
  case round =>
    obtain ⟨q, rfl, hq, hq13, hsm, hbel⟩ := hrel
    by_cases hlt : q < n ∧ q ≤ 34
    · obtain ⟨b, o, neg, an, m, cn, ad, m2, cd, k, rfl, c0, c1, c2, hr, hs⟩ := (h q hlt.1).below hbel
      have h1 := hlt.1
      have h2 := hlt.2
      have HS := Lib.hid (And.intro hsm (And.intro hbel hs))
      clear hlt hsm hbel hs hr
      go_wp2_with fail
      refine (keepRat_any _ _ _ _ _ _ _ _).mono ?_
      rintro e w1 ⟨rfl, hb1⟩
      rw [← HS.out.2.2]
      have HB := Lib.hid (below_next' HS.out.2.1 hb1)
      clear c0 c1 c2 hb1
      cases hsq : sm q
      · go_wp2
        go_ret
        exact ⟨false, rfl, fun e => (by cases e), HB.out⟩
      · have HQ := Lib.hid hsq
        go_wp2
        go_round
        case rel =>
          refine ⟨q + 1, by go_num, by omega, by omega, fun j hj => ?_, HB.out⟩
          rcases Nat.lt_or_ge j q with h | h
          · exact HS.out.1 j h
          · rw [show j = q by omega]; exact HQ.out
        case measure => simp [intOf]; omega
    · have HS := Lib.hid (And.intro hsm (And.intro hbel hlt))
      clear hsm hbel
      by_cases h1 : q < n
      · have h2 : ¬ q ≤ 34 := fun h => hlt ⟨h1, h⟩
        clear hlt
        go_wp2
        go_ret
        refine ⟨_, rfl, fun e => ?_, HS.out.2.1⟩
        simp at e
        omega
      · clear hlt
        go_wp2
        go_ret
        refine ⟨_, rfl, fun e => ?_, HS.out.2.1⟩
        simp at e
        exact ⟨by omega, fun i hi => HS.out.1 i (by omega)⟩


theorem LstA.le {w : World} {v : Value} {n k m : Nat} {f : Nat → Rat} (h : LstA w v n k f) (hm : k ≤ m) : LstA w v n m f := by
  obtain ⟨a, cap, e, h1, h2, h3⟩ := h
  refine ⟨a, cap, e, h1, h2, fun i hi => ?_⟩
  obtain ⟨g, o, x, y, z, ea, c0, c1, c2, hr⟩ := h3 i hi
  exact ⟨g, o, x, y, z, ea, c0, c1, c2, hr.le hm⟩
theorem scl_ne (f : Nat → Rat) (n : Nat) : ((scl f n : Nat) : Rat) ≠ 0 := by
  have h := scl_pos f n
  intro e
  have := Rat.natCast_inj.1 (show ((scl f n : Nat) : Rat) = ((0 : Nat) : Rat) from e)
  omega
theorem over_scale {x S : Rat} (h : S ≠ 0) : x * S * (1 / S) = x := by grind

theorem run_call84 (a : Act) (d : Option Tmp) (ty : TypeId) (pos : String) (es : Array Edge) (t u : Tmp) (w : World) (x : Value) (h : a.tmps.getD t undef = .func (.func 84) #[] #[]) (h' : a.tmps.getD u undef = x) :
    Sem.run Try.prog (execOp a.eval ⟨d, .call ⟨.value (.tmp t), #[.tmp u], #[32]⟩, ty, pos, es, none⟩) w = .ok (.enter 84 #[x]) w := by go_simp
/-- The sizes of the differences. -/
theorem sz_difs9 {f : Nat → Rat} {n : Nat} (hf : ∀ i, i < n → Sz (f i) 9) (hn : n ≤ 33) {j i : Nat} (h : j + i < n) : Sz (difs f j i) 311 :=
  sz_difs (D := scl f n) (k := 308) (fun i hi => wh_over hf hi hn) (scl_pos f n) (Nat.lt_of_lt_of_le (scl_lt hf n (Nat.le_refl _)) (pw_le (by omega))) hn h
theorem sz_difsS {f : Nat → Rat} {n : Nat} (hf : ∀ i, i < n → Sz (f i) 9) (hn : n ≤ 33) {j i : Nat} (h : j + i < n) : Sz (difs (fun i => f i * ((scl f n : Nat) : Rat)) j i) 311 :=
  sz_difs (D := 1) (k := 308) (fun i hi => wh_scl hf hi hn) (by omega) (Nat.lt_of_lt_of_le (show 1 < pw 1 by unfold pw; omega) (pw_le (by omega))) hn h

set_option maxRecDepth 100000 in
theorem transform_out (a : Option Addr) (n cap : Nat) (fv : Value) (F : Nat → Rat) (w : World) (m1 : n ≤ 9223372036854775807) (h : 33 < n) : Calls Try.prog 76 #[.slice a n cap, fv] w (ListB 0 F false w) := by
  go_enter Try.func76, Try.ntmps76
  go_wp2
  go_ret2
  exact ⟨_, rfl, Lst.nil _ _, Below.refl _ _⟩
end Go.Proofs.Ytdpiclmjdcjajaa

/-
  The walk of the law BinomialInterpolates: for every list that can be read it returns true. No conditions.
-/
namespace Go.Proofs.Ytdpiclmjdcjajaa
open Go.RowKit Num

theorem trimN_over {f : Nat → Rat} : ∀ (n j : Nat), trimN f n ≤ j → j < n → f j = 0
  | 0, j, _, h => absurd h (by omega)
  | n + 1, j, h, hj => by
    by_cases h0 : f n = 0
    · rw [trimN_zero h0] at h
      by_cases hjn : j = n
      · rw [hjn]; exact h0
      · exact trimN_over n j h (by omega)
    · have : trimN f (n + 1) = n + 1 := trimN_stay h0
      omega
theorem ev_trim (D : Nat → Rat) (n x : Nat) : ev D (trimN D n) x = ev D n x := by
  have hle := trimN_le D n
  obtain ⟨d, hd⟩ : ∃ d, n = trimN D n + d := ⟨n - trimN D n, by omega⟩
  have key : ∀ d, trimN D n + d ≤ n → ev D (trimN D n + d) x = ev D (trimN D n) x := by
    intro d
    induction d with
    | zero => intro _; rfl
    | succ d ih =>
      intro h
      show ev D (trimN D n + d) x + D (trimN D n + d) * chQ (x : Int) (trimN D n + d) = _
      rw [ih (by omega), trimN_over (f := D) n (trimN D n + d) (by omega) (by omega)]
      grind
  have := key d (by omega)
  rw [← hd] at this
  exact this.symm
theorem sz_chN {x k : Nat} (hx : x ≤ 2000000) (hk : k ≤ 33) : Sz (chQ (x : Int) k) 24 := by
  unfold chQ
  rw [if_neg (by omega), quo_cast]
  exact sz_rzI (by omega) hk

section
variable {κ : Tmp → Ke} {G : Nat → Option Tmp} {d s t u c : Tmp} {ty : TypeId} {pos : String} {es : Array Edge} {k k' : Nat} {p q : Rat} {g : Option (Nat × Bool)}
/-- A step that a guard lets through. -/
theorem g_lift {op : Op} (hg : GuardYes (Fe κ) G g) (h : FlowStep Try.prog (Fe κ) G ⟨some d, op, ty, pos, es, none⟩) : FlowStep Try.prog (Fe κ) G ⟨some d, op, ty, pos, es, g⟩ := by
  refine step_yes hg fun a w Q hf => ?_
  exact (h a w Q fun t ht => by
    rcases ht with ht | ⟨g', hg', _⟩
    · exact hf t ht
    · cases hg').1 rfl
theorem e_loadQ (ht : κ t = .box k q) (hd : κ d = .ratC q) : FlowStep Try.prog (Fe κ) G ⟨some d, .load 24 (.tmp t), ty, pos, es, none⟩ := by
  refine e_step rfl fun a w Q hf => ?_
  have h := hf t (by simp [Op.operands])
  rw [ht] at h
  obtain ⟨g', x0, x1, x2, e, c0, c1, c2, hr, hs⟩ : (Ke.box k q).holds w (a.tmps.getD t undef) := h
  unfold Oper.wp
  rw [run_loadEA _ _ _ _ _ _ _ g' 0 x0 x1 x2 e c0 c1 c2, Oper.upon_value]
  exact ⟨_, rfl, Below.refl _ _, fun d' hd' => by cases hd'; rw [hd]; exact hr⟩
theorem c1_47 (a : Act) (d : Option Tmp) (ty : TypeId) (pos : String) (es : Array Edge) (t : Tmp) (w : World) :
    Sem.run Try.prog (execOp a.eval ⟨d, .call ⟨.value (.func 47), #[.tmp t], #[24]⟩, ty, pos, es, none⟩) w = .ok (.enter 47 #[a.tmps.getD t undef]) w := by go_simp
theorem e_canon47 (ht : κ t = .ra k p) (hd : κ d = .ratC p) (hk : k ≤ 80000) : FlowStep Try.prog (Fe κ) G ⟨some d, .call ⟨.value (.func 47), #[.tmp t], #[24]⟩, ty, pos, es, none⟩ := by
  refine e_step rfl fun a w Q hf => ?_
  have h := hf t (by simp [Op.operands, Call.operands])
  rw [ht] at h
  unfold Oper.wp
  rw [c1_47, Oper.upon_enter]
  refine (refCanonical_a (k := k) h hk).mono ?_
  rintro e w' ⟨v, rfl, hv, hb⟩
  exact ⟨_, rfl, hb, fun d' hd' => by cases hd'; rw [hd]; exact hv⟩
end

end Go.Proofs.Ytdpiclmjdcjajaa

/-
  The walk of the function that Shift gives to transform. Conditions: at most 33 canonical numbers, a shift of at most 2000000, sums of at most 17000 limbs.
-/
namespace Go.Proofs.Ytdpiclmjdcjajaa
open Go.RowKit Num

set_option maxRecDepth 100000 in
set_option maxHeartbeats 8000000 in
theorem chooses_int (n : Int) (k : Nat) (w : World) (hk : k ≤ 65) (hn0 : -1000000000 ≤ n) (hn1 : n ≤ 9223372036854775807) :
    Calls Try.prog 58 #[.int .i64 n, .int .i64 k] w (ListP k (rz (quo n 1)) w) := by
  have hb0 := below_alloc1 w (.cells (madeCells #[.bool false, .slice none 0 0, .slice none 0 0] (k * 3)) 24)
  have hL0 := LstI.new w w.heap.size k (rz (quo n 1)) (Nat.le_refl _)
  have hz : ∀ o, (w.alloc o).heap.size = w.heap.size + 1 := fun o => Array.size_push _
  have hsn : Sz (quo n 1) 3 := sz_int (by omega) hn1
  have hs : ∀ i, i ≤ 65 → Sz (rz (quo n 1) i) 521 := fun i hi => by
    by_cases h : i ≤ 64
    · exact sz_le (sz_rz hsn i h) (by omega)
    · obtain rfl : i = 65 := by omega
      have h1 := sz_rz hsn 64 (by omega)
      have h2 := sz_sub hsn (sz_nat (n := 64) (by omega))
      exact sz_le (sz_div (sz_mul h1 h2) (sz_nat (n := 65) (by omega))) (by omega)
  have hq5 : ∀ i : Nat, i < 65 → Sz (quo (n - i) ((i : Int) + 1)) 7 := fun i hi => by
    rw [← quo_div, ← quo_sub]
    refine sz_le (sz_div (sz_sub hsn (sz_nat (n := i) (by omega))) (sz_nat (n := i + 1) (by omega))) (by decide)
  have HA := Lib.hid (And.intro hb0 (And.intro hL0 (And.intro hs hq5)))
  have HZ := Lib.hid hz
  clear hb0 hL0 hs hq5 hz hsn
  go_enter Try.func58, Try.ntmps58
  go_wp2_with fail
  rw [run_make32 k w hk]
  go_wp2_with fail
  refine (fromInt_any 1 _ (by omega) (by omega)).mono ?_
  rintro e w1 ⟨v, rfl, hv, hb1⟩
  rw [quo_one] at hv
  have hlt : w.heap.size < w1.heap.size := by have := hb1.size; rw [HZ.out] at this; omega
  have H1 := Lib.hid (And.intro (HA.out.2.1.below hb1) (And.intro hv (below_next' HA.out.1 hb1)))
  obtain ⟨y1, y2, y3, y4, y5, y6, rfl, _⟩ := hv
  clear hb1
  go_wp2
  have hb2 := below_alloc1 w1 (.cells #[.bool (decide ((1 : Rat).num < 0)), .slice y1 y2 y3, .slice y4 y5 y6] 24)
  have hB2 := BoxV.new w1 w.heap.size 24 (by omega) [.bool (decide ((1 : Rat).num < 0)), .slice y1 y2 y3, .slice y4 y5 y6]
  have HI := Lib.hid (And.intro (H1.out.1.below hb2) (And.intro (below_next' H1.out.2.2 hb2) (show RtO w w1.heap.size (rz (quo n 1) 0) _ from ⟨y1, y2, y3, y4, y5, y6, hB2, H1.out.2.1.below hb2⟩)))
  clear hb2 hB2
  go_loopw [12] (fun i wr => ∃ q : Nat, i = .int .i64 q ∧ q ≤ k ∧ LstI w.heap.size w.heap.size k (rz (quo n 1)) q wr ∧ Below w.heap.size w wr ∧ RtO w w1.heap.size (rz (quo n 1) q) wr) (fun i _ => k - (intOf i).toNat)
  case atStart => exact ⟨0, rfl, Nat.zero_le _, HI.out⟩
  case round =>
    obtain ⟨q, rfl, hq, hT, hbel, an, ln, cn, ad, ld, cd, hBs, hC⟩ := hrel
    by_cases hlt2 : q < k
    · have HL := Lib.hid hlt2
      have hT' := hT
      obtain ⟨xs, l1, l2, l3, _⟩ := hT
      have hxl : q * 3 + 2 < xs.length := by omega
      have c0 : wr.cell? ⟨w.heap.size, q * 3, none⟩ = some xs[q * 3] := by rw [l1.cell _ (by omega)]; exact List.getElem?_eq_getElem _
      have c1 : wr.cell? ⟨w.heap.size, q * 3 + 1, none⟩ = some xs[q * 3 + 1] := by rw [l1.cell _ (by omega)]; exact List.getElem?_eq_getElem _
      have c2 : wr.cell? ⟨w.heap.size, q * 3 + 2, none⟩ = some xs[q * 3 + 2] := by rw [l1.cell _ (by omega)]; exact List.getElem?_eq_getElem _
      have f0 := l1.frozen (q * 3)
      have f1 := l1.frozen (q * 3 + 1)
      have f2 := l1.frozen (q * 3 + 2)
      generalize xs[q * 3] = xa at c0
      generalize xs[q * 3 + 1] = xb at c1
      generalize xs[q * 3 + 2] = xc at c2
      have hgr : wr.grownBy (((wr.setCell ⟨w.heap.size, q * 3, none⟩ (.bool (decide ((rz (quo n 1) q).num < 0)))).setCell ⟨w.heap.size, q * 3 + 1, none⟩ (.slice an ln cn)).setCell ⟨w.heap.size, q * 3 + 2, none⟩ (.slice ad ld cd)) (some w.heap.size) :=
        grown_setCell (grown_setCell (grown_setCell (World.grownBy.refl _ _) _) _) _
      have hT2 := hT'.store hlt2 hC
      have hC2 := hC.other l1 l3 hgr
      have hB2 := hBs.kept hgr (by simp; omega)
      have hbel2 := ((hbel.setCell (p := ⟨w.heap.size, q * 3, none⟩) (Nat.le_refl _) (.bool (decide ((rz (quo n 1) q).num < 0)))).setCell (p := ⟨w.heap.size, q * 3 + 1, none⟩) (Nat.le_refl _) (.slice an ln cn)).setCell (p := ⟨w.heap.size, q * 3 + 2, none⟩) (Nat.le_refl _) (.slice ad ld cd)
      have hbx := boxC_of hB2 hC2 (HA.out.2.2.1 q (by omega))
      obtain ⟨⟨k0, k1, k2⟩, i0, i1, i2⟩ := hBs.three
      have HR := Lib.hid (And.intro hbx (And.intro hB2 (And.intro hT2 hbel2)))
      clear hT' l1 l2 l3 hxl hgr hT2 hC2 hB2 hbel2 hbx hBs hbel hC
      go_wp2_with fail
      refine region_flow_tail (Fe (chA n (rz (quo n 1) q) q)) (by rfl) (Fe.mono _) 29 8 [] (by rfl) (by kernel_rfl) (by kernel_rfl) (by kernel_rfl) (by kernel_rfl) (fun t ht => by cases ht) [0, 6, 7] (by kernel_rfl) ?g0 (Fe.draw _) ?gs ?gf
      case g0 =>
        intro t ht
        simp only [List.mem_cons, List.not_mem_nil, or_false] at ht
        rcases ht with rfl | rfl | rfl
        · rfl
        · exact HR.out.1
        · rfl
      case gs =>
        exact ⟨flowN_of (e_loadC rfl rfl) (by decide), flowN_of (e_move rfl) (by decide), flowN_of (e_move rfl) (by decide), flowN_of (e_isub rfl rfl rfl (by omega) (by omega)) (by decide), flowN_of (e_move rfl) (by decide), flowN_of (e_iadd1 rfl rfl (by omega) (by omega)) (by decide), flowN_of (e_small rfl rfl rfl (by omega) (by omega) (by omega) (by omega) (HA.out.2.2.2 q (by omega))) (by decide), flowN_of (e_mul73 rfl rfl rfl (by omega)) (by decide), trivial⟩
      intro a3 w3 hb3 hsz3 hdf3 hfacts hout _
      have f26 : RatC w3 (a3.tmps.getD 26 undef) (rz (quo n 1) q * quo (n - q) ((q : Int) + 1)) := hfacts 7 26 (by decide) rfl
      rw [rz_next] at f26
      have e0 : a3.tmps.getD 0 undef = .int .i64 n := hout 0 (free_of (by kernel_rfl))
      have e1 : a3.tmps.getD 1 undef = .int .i64 k := hout 1 (free_of (by kernel_rfl))
      have e2 : a3.tmps.getD 2 undef = undef := hout 2 (free_of (by kernel_rfl))
      have e3 : a3.tmps.getD 3 undef = undef := hout 3 (free_of (by kernel_rfl))
      have e4 : a3.tmps.getD 4 undef = .slice none 0 0 := hout 4 (free_of (by kernel_rfl))
      have e5 : a3.tmps.getD 5 undef = .slice (some ⟨w.heap.size, 0, none⟩) k k := hout 5 (free_of (by kernel_rfl))
      have e6 : a3.tmps.getD 6 undef = .pointer (some ⟨w1.heap.size, 0, none⟩) := hout 6 (free_of (by kernel_rfl))
      have e7 : a3.tmps.getD 7 undef = .int .i64 q := hout 7 (free_of (by kernel_rfl))
      have e8 : a3.tmps.getD 8 undef = .int .i64 k := hout 8 (free_of (by kernel_rfl))
      have e9 : a3.tmps.getD 9 undef = .slice (some ⟨w.heap.size, 0, none⟩) k k := hout 9 (free_of (by kernel_rfl))
      have e10 : a3.tmps.getD 10 undef = .agg #[.bool false, .slice y1 y2 y3, .slice y4 y5 y6] := hout 10 (free_of (by kernel_rfl))
      have e11 : a3.tmps.getD 11 undef = .int .i64 k := hout 11 (free_of (by kernel_rfl))
      have e12 : a3.tmps.getD 12 undef = .int .i64 q := hout 12 (free_of (by kernel_rfl))
      have e28 : a3.tmps.getD 28 undef = undef := hout 28 (free_of (by kernel_rfl))
      have hszn : a3.tmps.size = 29 := hsz3
      have hdfn : a3.defers = [] := hdf3
      have hB3 := HR.out.2.1.below hb3
      change runFrom _ _ _ 1 8 a3 w3
      simp only [runFrom]
      refine e_store (t := 6) (u := 26) rfl e6 hB3 f26 fun an' ln' cn' ad' ld' cd' hR => ?_
      have HN := Lib.hid (And.intro ((HR.out.2.2.1.below hb3).other (v0 := .bool (decide ((rz (quo n 1) (q + 1)).num < 0))) (v1 := .slice an' ln' cn') (v2 := .slice ad' ld' cd') hB3 (noLimb_rat _ _ _ _ _ _ _) (by omega)) (And.intro (below_set3 (below_next' HR.out.2.2.2 hb3) hB3.block.1 (.bool (decide ((rz (quo n 1) (q + 1)).num < 0))) (.slice an' ln' cn') (.slice ad' ld' cd')) (RtO.next hB3 (noLimb_rat _ _ _ _ _ _ _) hR)))
      generalize (((w3.setCell ⟨w1.heap.size, 0, none⟩ (.bool (decide ((rz (quo n 1) (q + 1)).num < 0)))).setCell ⟨w1.heap.size, 1, none⟩ (.slice an' ln' cn')).setCell ⟨w1.heap.size, 2, none⟩ (.slice ad' ld' cd')) = w4 at HN ⊢
      obtain ⟨uu, hu⟩ : ∃ u : Nat → Value, ∀ t, a3.tmps.getD t undef = u t := ⟨_, fun _ => rfl⟩
      have ha := act_eq a3 29 hszn hdfn
      simp only [hu] at ha e0 e1 e2 e3 e4 e5 e6 e7 e8 e9 e10 e11 e12 e28
      have ha' : a3 = ⟨#[uu 0, uu 1, uu 2, uu 3, uu 4, uu 5, uu 6, uu 7, uu 8, uu 9, uu 10, uu 11, uu 12, uu 13, uu 14, uu 15, uu 16, uu 17, uu 18, uu 19, uu 20, uu 21, uu 22, uu 23, uu 24, uu 25, uu 26, uu 27, uu 28], []⟩ := ha
      rw [e0, e1, e2, e3, e4, e5, e6, e7, e8, e9, e10, e11, e12, e28] at ha'
      clear ha hu e0 e1 e2 e3 e4 e5 e6 e7 e8 e9 e10 e11 e12 e28 hfacts hout hszn hdfn hsz3 hdf3 f26 hB3 hR hb3 k0 k1 k2 i0 i1 i2 c0 c1 c2 f0 f1 f2
      subst ha'
      go_wp2
      go_round
      case rel => exact ⟨q + 1, by go_num, by have := HL.out; omega, HN.out⟩
      case measure => have := HL.out; simp [intOf]; omega
    · have hqn : q = k := by omega
      subst hqn
      have HF := Lib.hid (And.intro hT hbel)
      clear hT hbel hBs hC hlt2
      go_wp2
      exact bodyPost_ret (v := .slice (some ⟨w.heap.size, 0, none⟩) q q) (by simp [results, Try.results58, go_sem]) rfl ⟨_, rfl, HF.out.1, HF.out.2⟩

set_option maxHeartbeats 2000000 in
theorem sum_gen (v : Value) (n K : Nat) (f : Nat → Rat) (w : World) (hK : K ≤ 17500) (h : LstA w v n K f) (hsum : ∀ i, i ≤ n → Sz (sumN f i) 17000) :
    Calls Try.prog 105 #[v] w (RatP (sumN f n) w) := by
  have hh := h
  obtain ⟨a, cap, rfl, _⟩ := h
  have hb0 := below_alloc1 w (.cells #[.bool false, .slice none 0 0, .slice none 0 0] 24)
  have hB := BoxV.new w w.heap.size 24 (Nat.le_refl _) [.bool false, .slice none 0 0, .slice none 0 0]
  have HA := Lib.hid (And.intro hh (And.intro hsum (And.intro hb0 hB)))
  clear hb0 hB hh hsum
  go_enter Try.func105, Try.ntmps105
  go_wp2_with fail
  refine (zero_any _).mono ?_
  rintro e w1 ⟨v, rfl, hv, hb1⟩
  have hB1 := HA.out.2.2.2.below hb1
  have hlt := hB1.block.2
  have H1 := Lib.hid (And.intro hv (And.intro hB1 (below_next' HA.out.2.2.1 hb1)))
  obtain ⟨z1, z2, z3, z4, z5, z6, rfl, _⟩ := hv
  clear hb1 hB1
  go_wp2
  have hb2 := below_alloc1 w1 (.cells #[.bool (decide ((0 : Rat).num < 0)), .slice z1 z2 z3, .slice z4 z5 z6] 24)
  have hB2 := BoxV.new w1 w.heap.size 24 (Nat.le_of_lt hlt) [.bool (decide ((0 : Rat).num < 0)), .slice z1 z2 z3, .slice z4 z5 z6]
  have HI := Lib.hid (show SumI w w1.heap.size (sumN f 0) _ from ⟨z1, z2, z3, z4, z5, z6, hB2, H1.out.1.below hb2, H1.out.2.1.below hb2, below_next' H1.out.2.2 hb2⟩)
  clear hb2 hB2
  go_loopw [9] (fun i wr => ∃ q : Nat, i = .int .i64 q ∧ q ≤ n ∧ SumI w w1.heap.size (sumN f q) wr) (fun i _ => n - (intOf i).toNat)
  case atStart => exact ⟨0, rfl, Nat.zero_le _, HI.out⟩
  case round =>
    obtain ⟨q, rfl, hq, an, ln, cn, ad, ld, cd, hBs, hC, hZ, hbel⟩ := hrel
    obtain ⟨⟨k0, k1, k2⟩, i0, i1, i2⟩ := hBs.three
    have t1 := hBs.block.2
    by_cases hlt2 : q < n
    · obtain ⟨_, _, e1, _, _, r1⟩ := HA.out.1.below hbel
      obtain ⟨rfl, rfl⟩ : a = _ ∧ cap = _ := by simpa using e1
      obtain ⟨b, o, x, y, z, rfl, c0, c1, c2, hr⟩ := r1 q hlt2
      have c1 : wr.cell? ⟨b, o + q * 3 + 1, none⟩ = some y := c1
      have c2 : wr.cell? ⟨b, o + q * 3 + 2, none⟩ = some z := c2
      obtain ⟨neg, ea, m, cn', ed, m2, cd', rfl, rfl, rfl⟩ := hr.shape
      have hb5 := fun W => below_alloc1 W (.cells #[.bool neg, .slice ea m cn', .slice ed m2 cd'] 24)
      have hadd := add_a (k := 17500) (((hC.a (HA.out.2.1 q hq)).le (by omega)).below (hb5 _)) ((hr.le (by omega)).below (hb5 _)) (by omega)
      have HR := Lib.hid (And.intro hadd (And.intro hBs (And.intro hZ (And.intro hbel (hb5 wr)))))
      clear hadd hBs hZ hbel hb5 hC hr r1 e1
      go_wp2_with fail
      refine HR.out.1.mono ?_
      rintro e w2 ⟨v, rfl, hv, hb6⟩
      have hb7 := below_next HR.out.2.2.2.2 hb6
      have hB2 := HR.out.2.1.below hb7
      have hZ2 := HR.out.2.2.1.below hb7
      have hbel2 := below_next' HR.out.2.2.2.1 hb7
      have HV := Lib.hid hv
      obtain ⟨y1, y2, y3, y4, y5, y6, rfl, _⟩ := hv
      clear k0 k1 k2 i0 i1 i2 c0 c1 c2 hb6 hb7 t1
      obtain ⟨⟨k0, k1, k2⟩, i0, i1, i2⟩ := hB2.three
      have HF := Lib.hid (And.intro hB2 (And.intro hZ2 hbel2))
      clear hB2 hZ2 hbel2
      go_wp2
      go_round
      case rel => exact ⟨q + 1, by go_num, by omega, SumI.next (s := sumN f q + f q) (by omega) HF.out.1 (noLimb_rat _ _ _ _ _ _ _) HF.out.2.1 HF.out.2.2 HV.out⟩
      case measure => simp [intOf]; omega
    · obtain ⟨⟨x0, x1, x2⟩, j0, j1, j2⟩ := hZ.three
      have HF := Lib.hid (And.intro hbel (And.intro hZ hC))
      have hqn : q = n := by omega
      subst hqn
      clear hbel hZ hC hBs hlt2
      go_wp2
      obtain ⟨e1, e2⟩ := ratC_end HF.out.1 HF.out.2.1 HF.out.2.2
      obtain ⟨⟨x0, x1, x2⟩, _⟩ := (HF.out.2.1.store3 (.bool (decide ((sumN f q).num < 0))) (.slice an ln cn) (.slice ad ld cd)).three
      exact bodyPost_ret (v := .agg #[.bool (decide ((sumN f q).num < 0)), .slice an ln cn, .slice ad ld cd]) (by simp [results, Try.results105, go_sem, x0, x1, x2]) rfl ⟨_, rfl, e1, e2⟩

set_option maxRecDepth 100000 in
set_option maxHeartbeats 4000000 in
theorem scalar_gen (u v : Value) (n k1 k2 K : Nat) (f g : Nat → Rat) (w : World) (hu : LstA w u n k1 f) (hv : LstA w v n k2 g) (hn : n ≤ 33) (h1 : k1 + k2 ≤ 20000) (hK : K ≤ 17500) (hs : ∀ i, i < n → Sz (f i * g i) K) (hsum : ∀ i, i ≤ n → Sz (sumN (fun i => f i * g i) i) 17000) :
    Calls Try.prog 61 #[u, v] w (RatP (sumN (fun i => f i * g i) n) w) := by
  have hb0 := below_alloc1 w (.cells #[.bool false, .slice none 0 0, .slice none 0 0] 24)
  have hB := BoxV.new w w.heap.size 24 (Nat.le_refl _) [.bool false, .slice none 0 0, .slice none 0 0]
  obtain ⟨H, hH⟩ : ∃ H, (fun i => f i * g i) = H := ⟨_, rfl⟩
  have hs' : ∀ i, i < n → Sz (H i) K := by rw [← hH]; exact hs
  have hsum' : ∀ i, i ≤ n → Sz (sumN H i) 17000 := by rw [← hH]; exact hsum
  have HSum := Lib.hid hsum'
  clear hsum hsum'
  rw [hH]
  obtain ⟨S, hS⟩ : ∃ S, sumN H n = S := ⟨_, rfl⟩
  rw [hS]
  have HA := Lib.hid (And.intro (hu.below hb0) (And.intro (hv.below hb0) (And.intro hs' (And.intro hb0 (And.intro hB (And.intro hH hS))))))
  clear hb0 hB hu hv hs hs' hH hS
  go_enter Try.func61, Try.ntmps61
  go_wp2_with fail
  refine (combine_same 73 (fun a b => a * b) _ _ n k1 k2 f g _ HA.out.1 HA.out.2.1 (by omega) callFunc73 (fun w x y p q hx hy => mul_a (k := k1 + k2) (hx.le (by omega)) (hy.le (by omega)) h1)).mono ?_
  rintro e w1 ⟨g1, rfl, hL, hb1⟩
  have hB1 := HA.out.2.2.2.2.1.below hb1
  rw [HA.out.2.2.2.2.2.1] at hL
  have hl := (hL.lst (cap := n) (Nat.le_refl _) (by omega)).toA HA.out.2.2.1
  have H1 := Lib.hid (And.intro hl (And.intro hB1 (below_next' HA.out.2.2.2.1 hb1)))
  clear hl hB1 hL hb1
  go_wp2_with fail
  refine (sum_gen _ n K H _ hK H1.out.1 HSum.out).mono ?_
  rintro e w2 ⟨v2, rfl, hv2, hb2⟩
  rw [HA.out.2.2.2.2.2.2] at hv2
  have hB2 := H1.out.2.1.below hb2
  have hbb := below_next' H1.out.2.2 hb2
  have HV := Lib.hid hv2
  obtain ⟨zn, zl, zc, en, el, ec, rfl, _⟩ := hv2
  obtain ⟨⟨x0, x1, x2⟩, j0, j1, j2⟩ := hB2.three
  have HF := Lib.hid (And.intro hbb hB2)
  clear hB2 hbb hb2
  go_wp2
  obtain ⟨e1, e2⟩ := ratC_end HF.out.1 HF.out.2 HV.out
  obtain ⟨⟨x0, x1, x2⟩, _⟩ := (HF.out.2.store3 (.bool (decide (S.num < 0))) (.slice zn zl zc) (.slice en el ec)).three
  exact bodyPost_ret (v := .agg #[.bool (decide (S.num < 0)), .slice zn zl zc, .slice en el ec]) (by simp [results, Try.results61, go_sem, x0, x1, x2]) rfl ⟨_, rfl, e1, e2⟩


section
variable {κ : Tmp → Ke} {G : Nat → Option Tmp} {d s t u c : Tmp} {ty : TypeId} {pos : String} {es : Array Edge} {k k' K B n m : Nat} {p q S : Rat} {f f' : Nat → Rat} {v0 : Value} {W : World}
theorem run_fromT (a : Act) (d : Option Tmp) (ty : TypeId) (pos : String) (es : Array Edge) (t u : Tmp) (w : World) (g o n c m : Nat) (h : a.tmps.getD t undef = .slice (some ⟨g, o, none⟩) n c) (h' : a.tmps.getD u undef = .int .i64 m) (h1 : m ≤ n) :
    Sem.run Try.prog (execOp a.eval ⟨d, .slice 32 (.tmp t) (some (.tmp u)) none none, ty, pos, es, none⟩) w = .ok (.value (.slice (if c = m then some ⟨g, o, none⟩ else some ⟨g, o + m * 3, none⟩) (n - m) (c - m))) w := by
  go_simp
set_option maxRecDepth 100000 in
theorem e_fromT (ht : κ t = .since W (.lsa v0 n K f)) (hu : κ u = .con (.int .i64 m)) (hd : κ d = .lav (n - m) K (fun i => f (m + i))) (hn : 1 ≤ n) (hm : m ≤ n) : FlowStep Try.prog (Fe κ) G ⟨some d, .slice 32 (.tmp t) (some (.tmp u)) none none, ty, pos, es, none⟩ := by
  refine e_step rfl fun a w Q hf => ?_
  have h := hf t (by simp [Op.operands])
  have h' := hf u (by simp [Op.operands])
  rw [ht] at h
  rw [hu] at h'
  obtain ⟨⟨e, hl⟩, hb⟩ := since_lsa h
  rw [e] at hl
  obtain ⟨b, cap, rfl, h1, h2, _⟩ := id hl
  obtain ⟨g, o, _, _, _, rfl, _⟩ := hl.elem (i := 0) (by omega)
  unfold Oper.wp
  rw [run_fromT _ _ _ _ _ _ _ _ g o n cap m e h' hm, Oper.upon_value]
  exact ⟨_, rfl, Below.refl _ _, fun d' hd' => by cases hd'; rw [hd]; exact hl.from hm⟩
theorem c2_61 (a : Act) (d : Option Tmp) (ty : TypeId) (pos : String) (es : Array Edge) (t u : Tmp) (w : World) :
    Sem.run Try.prog (execOp a.eval ⟨d, .call ⟨.value (.func 61), #[.tmp t, .tmp u], #[32, 32]⟩, ty, pos, es, none⟩) w = .ok (.enter 61 #[a.tmps.getD t undef, a.tmps.getD u undef]) w := by go_simp
theorem e_scalar {K' : Nat} (ht : κ t = .lav n k f) (hu : κ u = .lav n k' f') (hd : κ d = .ratC (sumN (fun i => f i * f' i) n)) (hn : n ≤ 33) (h1 : k + k' ≤ 20000) (hK : K' ≤ 17500) (hs : ∀ i, i < n → Sz (f i * f' i) K') (hsum : ∀ i, i ≤ n → Sz (sumN (fun i => f i * f' i) i) 17000) :
    FlowStep Try.prog (Fe κ) G ⟨some d, .call ⟨.value (.func 61), #[.tmp t, .tmp u], #[32, 32]⟩, ty, pos, es, none⟩ := by
  refine e_step rfl fun a w Q hf => ?_
  have h := hf t (by simp [Op.operands, Call.operands])
  have h' := hf u (by simp [Op.operands, Call.operands])
  rw [ht] at h
  rw [hu] at h'
  unfold Oper.wp
  rw [c2_61, Oper.upon_enter]
  refine (scalar_gen _ _ n k k' K' f f' w h h' hn h1 hK hs hsum).mono ?_
  rintro e w' ⟨v, rfl, hv, hb⟩
  exact ⟨_, rfl, hb, fun d' hd' => by cases hd'; rw [hd]; exact hv⟩
end

end Go.Proofs.Ytdpiclmjdcjajaa

/-
  The walks of Shift, of the reference's Shift and of the law BinomialShifts. No conditions.
-/
namespace Go.Proofs.Ytdpiclmjdcjajaa
open Go.RowKit Num

theorem run_call77 (a : Act) (d : Option Tmp) (ty : TypeId) (pos : String) (es : Array Edge) (t u : Tmp) (w : World) (x y : Value) (h : a.tmps.getD t undef = .func (.func 77) #[] #[y]) (h' : a.tmps.getD u undef = x) :
    Sem.run Try.prog (execOp a.eval ⟨d, .call ⟨.value (.tmp t), #[.tmp u], #[32]⟩, ty, pos, es, none⟩) w = .ok (.enter 77 #[x, y]) w := by go_simp

/-- The sizes of the shifted polynomial. -/
theorem wh_shC {P : Nat → Rat} {D k n : Nat} (hP : ∀ i, i < n → Wh D (pw k) (P i)) (hn : n ≤ 33) {c : Int} (hc : c.natAbs ≤ 2000000) (j : Nat) : Wh (D * fac 33) (pw (k + 30)) (shC P n (c : Rat) j) := by
  unfold shC
  have h := wh_sum (D := D * fac 33) (B := pw k * pw 29) (f := fun i => P (j + i) * rz (c : Rat) i) (n - j) fun i hi => (hP (j + i) (by omega)).mul (wh_rz33 hc (by omega))
  refine h.le ?_
  rw [← pw_add]
  exact Nat.le_trans (Nat.mul_le_mul_right _ (Nat.le_trans (show n - j ≤ 33 by omega) (show 33 ≤ pw 1 by unfold pw; decide))) (by rw [← pw_add]; exact pw_le (by omega))
theorem sz_shC {f : Nat → Rat} {n : Nat} (hf : ∀ i, i < n → Sz (f i) 9) (hn : n ≤ 33) {c : Int} (hc : c.natAbs ≤ 2000000) (j : Nat) : Sz (shC f n (c : Rat) j) 340 :=
  (wh_shC (k := 308) (fun i hi => wh_over hf hi hn) hn hc j).sz (Nat.mul_pos (scl_pos f n) (fac_pos 33)) (Nat.lt_of_lt_of_le (den_lt hf hn) (pw_le (by omega))) (pw_lt (by omega)) (by omega)
theorem sz_shS {f : Nat → Rat} {n : Nat} (hf : ∀ i, i < n → Sz (f i) 9) (hn : n ≤ 33) {c : Int} (hc : c.natAbs ≤ 2000000) (j : Nat) : Sz (shC (fun i => f i * ((scl f n : Nat) : Rat)) n (c : Rat) j) 340 :=
  (wh_shC (D := 1) (k := 308) (fun i hi => wh_scl hf hi hn) hn hc j).sz (by rw [Nat.one_mul]; exact fac_pos 33) (by rw [Nat.one_mul]; exact Nat.lt_of_lt_of_le fac33_lt (pw_le (by omega))) (pw_lt (by omega)) (by omega)

end Go.Proofs.Ytdpiclmjdcjajaa

/-
  The walk of the law BinomialVandermonde: for every list and every two integers it returns true. No conditions.
-/
namespace Go.Proofs.Ytdpiclmjdcjajaa
open Go.RowKit Num

theorem trimN_congr {f g : Nat → Rat} : ∀ n, (∀ i, i < n → f i = g i) → trimN f n = trimN g n
  | 0, _ => rfl
  | n + 1, h => by
    show (if f n = 0 then trimN f n else n + 1) = if g n = 0 then trimN g n else n + 1
    rw [h n (by omega), trimN_congr n fun i hi => h i (by omega)]
theorem ch_rz {z : Int} (h : 0 ≤ z) (k : Nat) : chQ z k = rz (z : Rat) k := by
  unfold chQ
  rw [if_neg (by omega), quo_cast]
theorem sz_chI {z : Int} {k : Nat} (h0 : 0 ≤ z) (hz : z ≤ 2000000) (hk : k ≤ 33) : Sz (chQ z k) 24 := by
  rw [ch_rz h0]
  exact sz_rzI (by omega) hk
/-! Tighter sizes for short lists -/
theorem wh_scl2 {f : Nat → Rat} {n K : Nat} (h : ∀ i, i < n → Sz (f i) K) {i : Nat} (hi : i < n) : Wh 1 (pw (K * (n + 1) + 2)) (f i * ((scl f n : Nat) : Rat)) := by
  obtain ⟨z, hz⟩ := scl_whole f n i hi
  have h1 : Sz ((scl f n : Nat) : Rat) (K * n + 1) := sz_natR (scl_lt h n (Nat.le_refl _)) (by omega)
  have h2 := sz_whole hz (sz_mul (h i hi) h1)
  refine h2.le (pw_le ?_)
  rw [Nat.mul_succ]
  omega
theorem wh_over2 {f : Nat → Rat} {n K : Nat} (h : ∀ i, i < n → Sz (f i) K) {i : Nat} (hi : i < n) : Wh (scl f n) (pw (K * (n + 1) + 2)) (f i) := by
  obtain ⟨z, e, hz⟩ := wh_scl2 h hi
  refine ⟨z, ?_, hz⟩
  rw [← e]
  show f i * ((scl f n : Nat) : Rat) = f i * ((scl f n : Nat) : Rat) * 1
  rw [Rat.mul_one]
theorem wh_rz9 {x : Int} {i : Nat} (hx : x.natAbs ≤ 1000) (hi : i ≤ 9) : Wh (fac 9) (pw 4) (rz (x : Rat) i) := by
  obtain ⟨c, hc, hle⟩ := fac_over hi
  have h := (wh_rz x 1009 i (by omega)).scale c
  rw [← hc] at h
  refine h.le (Nat.le_trans (Nat.mul_le_mul (Nat.pow_le_pow_right (by omega) hi) hle) ?_)
  unfold pw
  decide +kernel
theorem sz_shC9 {f : Nat → Rat} {n : Nat} (hf : ∀ i, i < n → Sz (f i) 9) (hn : n ≤ 10) {c : Int} (hc : c.natAbs ≤ 1000) (j : Nat) : Sz (shC f n (c : Rat) j) 107 := by
  have h1 : Wh (scl f n * fac 9) (pw 106) (shC f n (c : Rat) j) := by
    unfold shC
    have h := wh_sum (D := scl f n * fac 9) (B := pw 101 * pw 4) (f := fun i => f (j + i) * rz (c : Rat) i) (n - j) fun i hi => ((wh_over2 hf (i := j + i) (by omega)).le (pw_le (by omega))).mul (wh_rz9 hc (by omega))
    refine h.le ?_
    rw [← pw_add]
    exact Nat.le_trans (Nat.mul_le_mul_right _ (Nat.le_trans (show n - j ≤ 33 by omega) (show 33 ≤ pw 1 by unfold pw; decide))) (by rw [← pw_add]; exact pw_le (by omega))
  refine h1.sz (Nat.mul_pos (scl_pos f n) (fac_pos 9)) ?_ (pw_lt (by omega)) (by omega)
  have h := Nat.mul_lt_mul_of_lt_of_lt (scl_lt hf n (Nat.le_refl _)) (show fac 9 < pw 1 by unfold pw; decide +kernel)
  rw [← pw_add] at h
  exact Nat.lt_of_lt_of_le h (pw_le (by omega))
end Go.Proofs.Ytdpiclmjdcjajaa
