/-
  Plain mathematics of limb lists in base 10^9: the value of a list, canonical lists, one step of a carry. No conditions but those of each lemma.
-/

namespace Go.Proofs.YtafhepbplffmeaaDoor.Num

/-- The limb at place i, 0 behind the end. -/
def nth (l : List Nat) (i : Nat) : Nat := l.getD i 0

/-- What a list of limbs denotes. -/
def val : List Nat → Nat
  | [] => 0
  | x :: l => x + 1000000000 * val l

def pw (n : Nat) : Nat := 1000000000 ^ n

theorem pw_zero : pw 0 = 1 := rfl
theorem pw_succ (n : Nat) : pw (n + 1) = 1000000000 * pw n := by unfold pw; rw [Nat.pow_succ, Nat.mul_comm]
theorem pw_pos (n : Nat) : 1 ≤ pw n := by unfold pw; exact Nat.one_le_pow _ _ (by omega)
theorem pw_add (m n : Nat) : pw (m + n) = pw m * pw n := by unfold pw; exact Nat.pow_add ..
theorem pw_le {m n : Nat} (h : m ≤ n) : pw m ≤ pw n := by unfold pw; exact Nat.pow_le_pow_right (by omega) h

theorem nth_cons_zero (x : Nat) (l : List Nat) : nth (x :: l) 0 = x := rfl
theorem nth_cons_succ (x : Nat) (l : List Nat) (i : Nat) : nth (x :: l) (i + 1) = nth l i := rfl
theorem nth_nil (i : Nat) : nth [] i = 0 := rfl
theorem nth_out {l : List Nat} {i : Nat} (h : l.length ≤ i) : nth l i = 0 := by unfold nth; simp [List.getD, List.getElem?_eq_none h]
theorem nth_eq {l : List Nat} {i : Nat} (h : i < l.length) : nth l i = l[i] := by unfold nth; simp [List.getD, h]
theorem nth_set (l : List Nat) (i j x : Nat) (h : i < l.length) : nth (l.set i x) j = if j = i then x else nth l j := by
  unfold nth
  rw [List.getD, List.getD, List.getElem?_set]
  by_cases e : i = j
  · subst e; simp [h]
  · simp [e, Ne.symm e]
theorem nth_take (l : List Nat) (k i : Nat) : nth (l.take k) i = if i < k then nth l i else 0 := by
  unfold nth
  rw [List.getD, List.getD, List.getElem?_take]
  split <;> simp
theorem nth_drop (l : List Nat) (k i : Nat) : nth (l.drop k) i = nth l (k + i) := by
  unfold nth
  rw [List.getD, List.getD, List.getElem?_drop]
theorem nth_append_left (a b : List Nat) (i : Nat) (h : i < a.length) : nth (a ++ b) i = nth a i := by
  unfold nth; rw [List.getD, List.getD, List.getElem?_append_left h]
theorem nth_append_right (a b : List Nat) (i : Nat) : nth (a ++ b) (a.length + i) = nth b i := by
  unfold nth; rw [List.getD, List.getD, List.getElem?_append_right (by omega)]; congr 2; omega
theorem nth_replicate (n i : Nat) : nth (List.replicate n 0) i = 0 := by
  unfold nth; rw [List.getD, List.getElem?_replicate]; split <;> rfl
theorem ext_nth {a b : List Nat} (hl : a.length = b.length) (h : ∀ i, i < a.length → nth a i = nth b i) : a = b := by
  apply List.ext_getElem hl
  intro i h1 h2
  have := h i h1
  rwa [nth_eq h1, nth_eq h2] at this

theorem val_append (a b : List Nat) : val (a ++ b) = val a + pw a.length * val b := by
  induction a with
  | nil => simp [val, pw]
  | cons x a ih => simp only [List.cons_append, val, ih, List.length_cons, pw_succ]; grind

theorem val_split (l : List Nat) (i : Nat) (h : i ≤ l.length) : val l = val (l.take i) + pw i * val (l.drop i) := by
  have := val_append (l.take i) (l.drop i)
  rwa [List.take_append_drop, List.length_take, Nat.min_eq_left h] at this

theorem drop_cons (l : List Nat) (i : Nat) (h : i < l.length) : l.drop i = nth l i :: l.drop (i + 1) := by
  rw [nth_eq h]; exact List.drop_eq_getElem_cons h

theorem val_drop (l : List Nat) (i : Nat) (h : i < l.length) : val (l.drop i) = nth l i + 1000000000 * val (l.drop (i + 1)) := by
  rw [drop_cons l i h]; rfl

theorem take_snoc (l : List Nat) (i : Nat) (h : i < l.length) : l.take (i + 1) = l.take i ++ [nth l i] := by
  rw [nth_eq h]; exact List.take_succ_eq_append_getElem h

theorem val_take_succ (l : List Nat) (i : Nat) (h : i < l.length) : val (l.take (i + 1)) = val (l.take i) + pw i * nth l i := by
  rw [take_snoc l i h, val_append, List.length_take, Nat.min_eq_left (by omega)]; simp [val]

theorem val_replicate (n : Nat) : val (List.replicate n 0) = 0 := by
  induction n with
  | zero => rfl
  | succ n ih => simp [List.replicate_succ, val, ih]

theorem val_zeros {l : List Nat} (h : ∀ i, i < l.length → nth l i = 0) : val l = 0 := by
  induction l with
  | nil => rfl
  | cons x l ih =>
    have hx : x = 0 := h 0 (by simp)
    have := ih (fun i hi => h (i + 1) (by simp; omega))
    simp [val, hx, this]

theorem val_eq_zero {l : List Nat} (h : val l = 0) : ∀ i, nth l i = 0 := by
  induction l with
  | nil => intro i; rfl
  | cons x l ih =>
    simp only [val] at h
    intro i
    cases i with
    | zero => show x = 0; omega
    | succ i => exact ih (by omega) i

/-- Every limb is below the base. -/
def Lo (l : List Nat) : Prop := ∀ i, nth l i < 1000000000

theorem val_lt {l : List Nat} (h : Lo l) : val l < pw l.length := by
  induction l with
  | nil => simp [val, pw]
  | cons x l ih =>
    have hx : x < 1000000000 := h 0
    have := ih (fun i => h (i + 1))
    simp only [val, List.length_cons, pw_succ]; omega

theorem Lo.take {l : List Nat} (h : Lo l) (k : Nat) : Lo (l.take k) := fun i => by rw [nth_take]; split; exact h i; omega
theorem Lo.drop {l : List Nat} (h : Lo l) (k : Nat) : Lo (l.drop k) := fun i => by rw [nth_drop]; exact h _

theorem val_take_lt {l : List Nat} (h : Lo l) (k : Nat) (hk : k ≤ l.length) : val (l.take k) < pw k := by
  have := val_lt (h.take k)
  rwa [List.length_take, Nat.min_eq_left hk] at this

/-- Canonical limbs: below the base, none is 0 at the end. -/
def Cano (l : List Nat) : Prop := Lo l ∧ (l.length = 0 ∨ nth l (l.length - 1) ≠ 0)

theorem cano_nil : Cano [] := ⟨fun _ => by rw [nth_nil]; omega, .inl rfl⟩

theorem Cano.tail {x : Nat} {l : List Nat} (h : Cano (x :: l)) : Cano l := by
  refine ⟨fun i => h.1 (i + 1), ?_⟩
  rcases l with _ | ⟨y, l⟩
  · exact .inl rfl
  · right
    rcases h.2 with h2 | h2
    · simp at h2
    · simpa [nth_cons_succ] using h2

theorem Cano.pos {l : List Nat} (h : Cano l) (hl : l.length ≠ 0) : pw (l.length - 1) ≤ val l := by
  have h2 : nth l (l.length - 1) ≠ 0 := by rcases h.2 with h2 | h2; exact absurd h2 hl; exact h2
  have := val_take_succ l (l.length - 1) (by omega)
  rw [show l.length - 1 + 1 = l.length by omega, List.take_length] at this
  have h3 : pw (l.length - 1) * 1 ≤ pw (l.length - 1) * nth l (l.length - 1) := Nat.mul_le_mul_left _ (by omega)
  omega

theorem Cano.zero {l : List Nat} (h : Cano l) : val l = 0 ↔ l.length = 0 := by
  constructor
  · intro hv
    rcases Nat.eq_zero_or_pos l.length with h0 | h0
    · exact h0
    · have := h.pos (by omega); have := pw_pos (l.length - 1); omega
  · intro h0
    rw [List.eq_nil_of_length_eq_zero h0]; rfl

theorem can_unique {a b : List Nat} (ha : Cano a) (hb : Cano b) (h : val a = val b) : a = b := by
  induction a generalizing b with
  | nil =>
    have := (hb.zero).1 h.symm
    exact (List.eq_nil_of_length_eq_zero this).symm
  | cons x a ih =>
    cases b with
    | nil => have := (ha.zero).1 h; simp at this
    | cons y b =>
      have hx : x < 1000000000 := ha.1 0
      have hy : y < 1000000000 := hb.1 0
      simp only [val] at h
      have e1 : x = y := by omega
      have e2 : val a = val b := by omega
      rw [e1, ih ha.tail hb.tail e2]

theorem can_len_lt {a b : List Nat} (ha : Cano a) (hb : Cano b) (h : a.length < b.length) : val a < val b := by
  have h1 := val_lt ha.1
  have h2 := hb.pos (by omega)
  have h3 := pw_le (show a.length ≤ b.length - 1 by omega)
  omega

/-- Lists that agree above i and differ at i. -/
theorem val_lt_at {a b : List Nat} (ha : Lo a) (hl : a.length = b.length) (i : Nat) (hi : i < a.length) (hd : a.drop (i + 1) = b.drop (i + 1)) (hlt : nth a i < nth b i) : val a < val b := by
  have e1 := val_split a i (by omega)
  have e2 := val_split b i (by omega)
  have d1 := val_drop a i hi
  have d2 := val_drop b i (by omega)
  have t1 := val_take_lt ha i (by omega)
  have e3 : pw i * (val (a.drop i) + 1) ≤ pw i * val (b.drop i) := Nat.mul_le_mul_left _ (by rw [d1, d2, hd]; omega)
  rw [Nat.mul_add] at e3
  omega

/-- Cutting zeros off the end. -/
theorem val_take_zeros {l : List Nat} (k : Nat) (hk : k ≤ l.length) (h : ∀ i, k ≤ i → nth l i = 0) : val (l.take k) = val l := by
  have := val_split l k hk
  have h0 : val (l.drop k) = 0 := val_zeros fun i _ => by rw [nth_drop]; exact h _ (by omega)
  rw [this, h0]; omega

theorem can_take {l : List Nat} (hl : Lo l) (k : Nat) (hk : k ≤ l.length) (h : k = 0 ∨ nth l (k - 1) ≠ 0) : Cano (l.take k) := by
  refine ⟨hl.take k, ?_⟩
  rw [List.length_take, Nat.min_eq_left hk]
  rcases h with h | h
  · exact .inl h
  · rcases Nat.eq_zero_or_pos k with h0 | h0
    · exact .inl h0
    · right; rw [nth_take, if_pos (by omega)]; exact h

theorem set_take_succ (L : List Nat) (k x : Nat) (hk : k < L.length) : (L.set k x).take (k + 1) = L.take k ++ [x] := by
  rw [take_snoc _ _ (by simpa using hk), nth_set _ _ _ _ hk, if_pos rfl, List.take_set_of_le (by omega)]

theorem val_set_take (L : List Nat) (k x : Nat) (hk : k < L.length) : val ((L.set k x).take (k + 1)) = val (L.take k) + pw k * x := by
  rw [set_take_succ L k x hk, val_append, List.length_take, Nat.min_eq_left (by omega)]; simp [val]

/-- One step of a carry: the limb t % 10^9 is stored at place k, t / 10^9 goes on. -/
theorem carry_step (L : List Nat) (k t S : Nat) (hk : k < L.length) (h : val (L.take k) + pw k * t = S) :
    val ((L.set k (t % 1000000000)).take (k + 1)) + pw (k + 1) * (t / 1000000000) = S := by
  rw [val_set_take L k _ hk, pw_succ]
  have := Nat.div_add_mod t 1000000000
  have e : pw k * t = 1000000000 * pw k * (t / 1000000000) + pw k * (t % 1000000000) := by
    rw [Nat.mul_comm 1000000000 (pw k), Nat.mul_assoc, ← Nat.mul_add, this]
  omega

theorem lo_set {L : List Nat} {k x : Nat} (hk : k < L.length) (h : ∀ i, i < k → nth L i < 1000000000) (hx : x < 1000000000) : ∀ i, i < k + 1 → nth (L.set k x) i < 1000000000 := by
  intro i hi
  rw [nth_set _ _ _ _ hk]
  split
  · exact hx
  · exact h i (by omega)

theorem lo_of {L : List Nat} (h : ∀ i, i < L.length → nth L i < 1000000000) : Lo L := fun i => by
  by_cases hi : i < L.length
  · exact h i hi
  · rw [nth_out (by omega)]; omega

end Go.Proofs.YtafhepbplffmeaaDoor.Num

/-
  Plain mathematics for the walks of the natural numbers: steps of addition, subtraction, multiplication, division by one limb. No conditions but those of each lemma.
-/
namespace Go.Proofs.YtafhepbplffmeaaDoor.Num

theorem val_take_succ' (l : List Nat) (i : Nat) : val (l.take (i + 1)) = val (l.take i) + pw i * nth l i := by
  by_cases h : i < l.length
  · exact val_take_succ l i h
  · rw [nth_out (by omega), List.take_of_length_le (by omega), List.take_of_length_le (by omega)]; omega

theorem pw_three : pw 3 = 1000000000000000000000000000 := by decide

theorem len_small {k q n : Nat} (h : pw k * q ≤ n) (hq : 0 < q) (hn : n < 18446744073709551616) : k ≤ 2 := by
  rcases Nat.lt_or_ge k 3 with h3 | h3
  · omega
  · have h1 := pw_le h3
    have h2 : pw k * 1 ≤ pw k * q := Nat.mul_le_mul_left _ hq
    rw [pw_three] at h1
    omega

/-- One limb more at the end. -/
theorem snoc_step (L : List Nat) (q : Nat) : val (L ++ [q % 1000000000]) + pw (L.length + 1) * (q / 1000000000) = val L + pw L.length * q := by
  rw [val_append, pw_succ]
  have := Nat.div_add_mod q 1000000000
  have e : pw L.length * q = 1000000000 * pw L.length * (q / 1000000000) + pw L.length * (q % 1000000000) := by
    rw [Nat.mul_comm 1000000000 (pw _), Nat.mul_assoc, ← Nat.mul_add, this]
  simp [val]; omega

theorem lo_snoc {L : List Nat} (h : Lo L) {x : Nat} (hx : x < 1000000000) : Lo (L ++ [x]) := fun i => by
  rcases Nat.lt_trichotomy i L.length with h1 | h1 | h1
  · rw [nth_append_left _ _ _ h1]; exact h i
  · have := nth_append_right L [x] 0
    rw [Nat.add_zero] at this
    rw [h1, this]; exact hx
  · rw [nth_out (by simp; omega)]; omega

theorem cano_snoc {L : List Nat} (h : Lo L) {x : Nat} (hx : x < 1000000000) (h0 : x ≠ 0) : Cano (L ++ [x]) := by
  refine ⟨lo_snoc h hx, .inr ?_⟩
  have := nth_append_right L [x] 0
  rw [Nat.add_zero] at this
  rw [show (L ++ [x]).length - 1 = L.length by simp, this]; exact h0

theorem mulimb_step (L l : List Nat) (k c m : Nat) (hk : k < L.length) (h : val (L.take k) + pw k * c = m * val (l.take k)) :
    val ((L.set k ((c + nth l k * m) % 1000000000)).take (k + 1)) + pw (k + 1) * ((c + nth l k * m) / 1000000000) = m * val (l.take (k + 1)) := by
  refine carry_step L k _ _ hk ?_
  rw [val_take_succ', Nat.mul_add, Nat.mul_add, ← Nat.add_assoc, h]
  congr 1
  grind

theorem add_step (L a b : List Nat) (k c : Nat) (hk : k < L.length) (h : val (L.take k) + pw k * c = val (a.take k) + val (b.take k)) :
    val ((L.set k ((nth a k + c + nth b k) % 1000000000)).take (k + 1)) + pw (k + 1) * ((nth a k + c + nth b k) / 1000000000) = val (a.take (k + 1)) + val (b.take (k + 1)) := by
  refine carry_step L k _ _ hk ?_
  rw [val_take_succ', val_take_succ', Nat.mul_add, Nat.mul_add]; omega

/-- A borrow: the limbs so far, and the borrow, make the difference. -/
theorem sub_step (L a b : List Nat) (k c c' x : Nat) (hk : k < L.length) (h : val (L.take k) + val (b.take k) = val (a.take k) + pw k * c)
    (hx : x + (nth b k + c) = nth a k + c' * 1000000000) :
    val ((L.set k x).take (k + 1)) + val (b.take (k + 1)) = val (a.take (k + 1)) + pw (k + 1) * c' := by
  rw [val_set_take L k x hk, val_take_succ', val_take_succ', pw_succ]
  have e : pw k * (x + (nth b k + c)) = pw k * (nth a k + c' * 1000000000) := by rw [hx]
  rw [Nat.mul_add, Nat.mul_add, Nat.mul_add] at e
  have e2 : pw k * (c' * 1000000000) = 1000000000 * pw k * c' := by
    rw [Nat.mul_comm c', ← Nat.mul_assoc, Nat.mul_comm (pw k)]
  omega

/-- Division by one limb from the top: what has been divided. -/
theorem divlimb_step (L l : List Nat) (j c r x : Nat) (hj : j < L.length) (hl : j < l.length) (h : val (l.drop (j + 1)) = c * val (L.drop (j + 1)) + r)
    (hx : x = (r * 1000000000 + nth l j) / c) :
    val (l.drop j) = c * val ((L.set j x).drop j) + (r * 1000000000 + nth l j) % c := by
  have e1 : (L.set j x).drop j = x :: L.drop (j + 1) := by
    rw [drop_cons _ _ (by simpa using hj), nth_set _ _ _ _ hj, if_pos rfl, List.drop_set_of_lt (by omega)]
  rw [val_drop l j hl, h, e1]
  have e2 := Nat.div_add_mod (r * 1000000000 + nth l j) c
  rw [← hx] at e2
  have e3 : c * val (x :: L.drop (j + 1)) = c * x + 1000000000 * (c * val (L.drop (j + 1))) := by
    simp only [val, Nat.mul_add]; rw [Nat.mul_left_comm]
  omega

theorem lo_set_drop {L : List Nat} {j x : Nat} (hj : j < L.length) (h : Lo L) (hx : x < 1000000000) : Lo (L.set j x) := fun i => by
  rw [nth_set _ _ _ _ hj]; split; exact hx; exact h i

theorem lo_replicate (n : Nat) : Lo (List.replicate n 0) := fun i => by rw [nth_replicate]; omega

theorem quo_lt {r c x : Nat} (hr : r < c) (hx : x < 1000000000) : (r * 1000000000 + x) / c < 1000000000 := by
  rw [Nat.div_lt_iff_lt_mul (by omega)]
  have : (r + 1) * 1000000000 ≤ c * 1000000000 := Nat.mul_le_mul_right _ hr
  rw [Nat.mul_comm 1000000000 c]; omega

/-- One step of the inner loop of a product. -/
theorem mul_step (L L0 y : List Nat) (i j c a : Nat) (hk : i + j < L.length) (h : val (L.take (i + j)) + pw (i + j) * c = val (L0.take (i + j)) + pw i * (a * val (y.take j))) (he : nth L (i + j) = nth L0 (i + j)) :
    val ((L.set (i + j) ((c + (nth L (i + j) + a * nth y j)) % 1000000000)).take (i + j + 1)) + pw (i + j + 1) * ((c + (nth L (i + j) + a * nth y j)) / 1000000000) = val (L0.take (i + j + 1)) + pw i * (a * val (y.take (j + 1))) := by
  refine carry_step L (i + j) _ _ hk ?_
  rw [val_take_succ' L0, val_take_succ' y, ← he, pw_add] at *
  grind

/-- The end of the inner loop: the carry is stored. -/
theorem mul_end (L L0 x y : List Nat) (i c : Nat) (hk : i + y.length < L.length) (h : val (L.take (i + y.length)) + pw (i + y.length) * c = val (L0.take (i + y.length)) + pw i * (nth x i * val (y.take y.length)))
    (h0 : val (L0.take (i + y.length)) = val (x.take i) * val y) : val ((L.set (i + y.length) c).take (i + y.length + 1)) = val (x.take (i + 1)) * val y := by
  rw [val_set_take L _ c hk, h, List.take_length, h0, val_take_succ', Nat.add_mul, Nat.mul_assoc]

theorem mul_bound {a b c d : Nat} (ha : a < 1000000000) (hb : b < 1000000000) (hc : c < 1000000000) (hd : d < 1000000000) : c + (d + a * b) < 1000000000000000000 := by
  have : a * b ≤ 999999999 * 999999999 := Nat.mul_le_mul (by omega) (by omega)
  omega

theorem val_ge_drop (l : List Nat) (j : Nat) (h : j ≤ l.length) : val (l.drop j) ≤ val l := by
  have := val_split l j h
  have h2 : 1 * val (l.drop j) ≤ pw j * val (l.drop j) := Nat.mul_le_mul_right _ (pw_pos j)
  omega

end Go.Proofs.YtafhepbplffmeaaDoor.Num

/-
  Plain mathematics of long division: Knuth's guess, the step that subtracts a multiple, a stretch within a row. No conditions but those of each lemma.
-/
namespace Go.Proofs.YtafhepbplffmeaaDoor.Num

theorem nth_mid (pre X post : List Nat) (i : Nat) (h : i < X.length) : nth (pre ++ X ++ post) (pre.length + i) = nth X i := by
  rw [nth_append_left _ _ _ (by simp; omega), nth_append_right]

theorem set_mid (pre X post : List Nat) (i x : Nat) (h : i < X.length) : (pre ++ X ++ post).set (pre.length + i) x = pre ++ X.set i x ++ post := by
  apply ext_nth (by simp)
  intro j hj
  rw [nth_set _ _ _ _ (by simp; omega)]
  simp only [List.length_set, List.length_append] at hj
  rcases Nat.lt_or_ge j pre.length with h1 | h1
  · rw [if_neg (by omega), List.append_assoc, List.append_assoc, nth_append_left _ _ _ h1, nth_append_left _ _ _ h1]
  · obtain ⟨k, rfl⟩ : ∃ k, j = pre.length + k := ⟨j - pre.length, by omega⟩
    rcases Nat.lt_or_ge k X.length with h2 | h2
    · rw [nth_mid _ _ _ _ h2, nth_mid _ _ _ _ (by simpa using h2), nth_set _ _ _ _ h]
      by_cases e : k = i
      · rw [if_pos (by omega), if_pos e]
      · rw [if_neg (by omega), if_neg e]
    · obtain ⟨m, rfl⟩ : ∃ m, k = X.length + m := ⟨k - X.length, by omega⟩
      have e1 : pre.length + (X.length + m) = (pre ++ X).length + m := by simp; omega
      have e2 : pre.length + (X.length + m) = (pre ++ X.set i x).length + m := by simp; omega
      rw [if_neg (by omega)]
      conv => lhs; rw [e1, nth_append_right]
      rw [e2, nth_append_right]

theorem drop_set_gt (X : List Nat) (k x : Nat) : (X.set k x).drop (k + 1) = X.drop (k + 1) := List.drop_set_of_lt (by omega)

/-- Giving the divisor back: one step. -/
theorem give_step (X X0 D : List Nat) (k c : Nat) (hk : k < X.length) (h : val (X.take k) + pw k * c = val (X0.take k) + val (D.take k)) (he : nth X k = nth X0 k) :
    val ((X.set k ((nth X k + nth D k + c) % 1000000000)).take (k + 1)) + pw (k + 1) * ((nth X k + nth D k + c) / 1000000000) = val (X0.take (k + 1)) + val (D.take (k + 1)) := by
  refine carry_step X k _ _ hk ?_
  rw [val_take_succ', val_take_succ', he, Nat.mul_add, Nat.mul_add]; omega

/-- Subtracting a multiple: one step. -/
theorem mulsub_step (X X0 D : List Nat) (k G b z u : Nat) (hk : k < X.length) (h : val (X.take k) + G * val (D.take k) = val (X0.take k) + pw k * b) (he : nth X k = nth X0 k)
    (hz : z + (b + G * nth D k) % 1000000000 = nth X k + u * 1000000000) :
    val ((X.set k z).take (k + 1)) + G * val (D.take (k + 1)) = val (X0.take (k + 1)) + pw (k + 1) * ((b + G * nth D k) / 1000000000 + u) := by
  rw [val_set_take X k z hk, val_take_succ', val_take_succ', pw_succ, ← he]
  have e := Nat.div_add_mod (b + G * nth D k) 1000000000
  generalize (b + G * nth D k) / 1000000000 = tq at *
  generalize (b + G * nth D k) % 1000000000 = tr at *
  have e1 : pw k * (z + (b + G * nth D k)) = pw k * (nth X k + 1000000000 * (tq + u)) := by congr 1; omega
  grind

theorem knuth_up {D V d0 x0 b s f x2 T G r q : Nat} (hD : D = d0 + b * (s + 1000000000 * f)) (hV : V = x0 + b * (x2 + 1000000000 * T)) (hx : x0 < b) (hT : T = G * f + r) (hq : q * D ≤ V)
    (h : r * 1000000000 + x2 < G * s) : q < G := by
  rcases Nat.lt_or_ge q G with h1 | h1
  · exact h1
  · exfalso
    have h2 : G * D ≤ q * D := Nat.mul_le_mul_right _ h1
    have h3 : G * D = G * d0 + b * (G * s + 1000000000 * (G * f)) := by rw [hD]; grind
    have h4 : b * (G * s + 1000000000 * (G * f)) < b * (x2 + 1000000000 * T + 1) := by rw [Nat.mul_add b _ 1]; omega
    have h5 := Nat.lt_of_mul_lt_mul_left h4
    omega

theorem knuth_down {D V d0 x0 b s f x2 T G r : Nat} (hD : D = d0 + b * (s + 1000000000 * f)) (hV : V = x0 + b * (x2 + 1000000000 * T)) (hd : d0 < b) (hf : 1 ≤ f) (hT : T = G * f + r) (hG : G < 1000000000)
    (h : G * s ≤ r * 1000000000 + x2) : G ≤ V / D + 1 := by
  rcases Nat.eq_zero_or_pos G with h0 | h0
  · rw [h0]; exact Nat.zero_le _
  · obtain ⟨H, rfl⟩ : ∃ H, G = H + 1 := ⟨G - 1, by omega⟩
    have hDp : 0 < D := by
      have : b * 1 ≤ b * (s + 1000000000 * f) := Nat.mul_le_mul_left _ (by omega)
      omega
    have h1 : H ≤ V / D := by
      rw [Nat.le_div_iff_mul_le hDp]
      have e1 : (H + 1) * D = (H + 1) * d0 + b * ((H + 1) * s + 1000000000 * ((H + 1) * f)) := by rw [hD]; grind
      have e2 : (H + 1) * D = H * D + D := by rw [Nat.add_mul, Nat.one_mul]
      have e3 : b * ((H + 1) * s + 1000000000 * ((H + 1) * f)) ≤ b * (x2 + 1000000000 * T) := Nat.mul_le_mul_left _ (by omega)
      have e4 : (H + 1) * d0 ≤ 1000000000 * b := Nat.mul_le_mul (by omega) (by omega)
      have e5 : b * (1000000000 * 1) ≤ b * (s + 1000000000 * f) := Nat.mul_le_mul_left _ (by omega)
      omega
    exact Nat.succ_le_succ h1

theorem knuth_rest {G s r x2 : Nat} (hG : G < 1000000000) (hs : s < 1000000000) (hr : 1000000000 ≤ r) : G * s ≤ r * 1000000000 + x2 := by
  have : G * s ≤ 999999999 * 999999999 := Nat.mul_le_mul (by omega) (by omega)
  omega

theorem knuth_init {D V d0 x0 b s f x2 T : Nat} (hD : D = d0 + b * (s + 1000000000 * f)) (hV : V = x0 + b * (x2 + 1000000000 * T)) (hx : x0 < b) (hx2 : x2 < 1000000000) (hf : 1 ≤ f) : V / D ≤ T / f := by
  rw [Nat.le_div_iff_mul_le hf]
  have h1 := Nat.div_mul_le_self V D
  generalize V / D = q at *
  have h2 : q * D = q * d0 + b * (q * s) + 1000000000 * (b * (q * f)) := by rw [hD]; grind
  have h3 : b * (x2 + 1000000000 * T) = b * x2 + 1000000000 * (b * T) := by grind
  have h4 : b * x2 ≤ b * 999999999 := Nat.mul_le_mul_left _ (by omega)
  have h5 : b * (q * f) < b * (T + 1) := by rw [Nat.mul_add b T 1]; omega
  have := Nat.lt_of_mul_lt_mul_left h5
  omega

theorem quo_small {V D : Nat} (h : V < D * 1000000000) : V / D ≤ 999999999 := by
  have : V / D < 1000000000 := Nat.div_lt_of_lt_mul h
  omega

/-- What stands after the multiple was subtracted: the guess was right, or one too great. -/
theorem tm_right {A D Vlo V p b xn G : Nat} (hA : A < p) (hD : D ≤ p) (hD0 : 0 < D) (hV : V = Vlo + p * xn) (h : A + G * D = Vlo + p * b) (hG : G = V / D) : b = xn ∧ A = V % D := by
  have e1 := Nat.div_add_mod V D
  have e2 := Nat.mod_lt V hD0
  rw [← hG] at e1
  rw [Nat.mul_comm] at e1
  rcases Nat.lt_trichotomy b xn with h1 | h1 | h1
  · have : p * (b + 1) ≤ p * xn := Nat.mul_le_mul_left _ h1
    rw [Nat.mul_add] at this; omega
  · subst h1; omega
  · have : p * (xn + 1) ≤ p * b := Nat.mul_le_mul_left _ h1
    rw [Nat.mul_add] at this; omega

theorem tm_over {A D Vlo V p b xn G : Nat} (hA : A < p) (hD : D ≤ p) (hD0 : 0 < D) (hV : V = Vlo + p * xn) (h : A + G * D = Vlo + p * b) (hG : G = V / D + 1) : xn < b ∧ A + D = V % D + p := by
  have e1 := Nat.div_add_mod V D
  have e2 := Nat.mod_lt V hD0
  rw [hG, Nat.add_mul, Nat.mul_comm (V / D)] at h
  rcases Nat.lt_trichotomy b (xn + 1) with h1 | h1 | h1
  · have : p * b ≤ p * xn := Nat.mul_le_mul_left _ (by omega)
    omega
  · subst h1; rw [Nat.mul_add] at h; omega
  · have : p * (xn + 1 + 1) ≤ p * b := Nat.mul_le_mul_left _ h1
    rw [Nat.mul_add, Nat.mul_add] at this; omega

/-- The two leading limbs of a list of m + 2, the three of one of m + 3. -/
theorem top_two (D : List Nat) (m : Nat) (h : D.length = m + 2) : val D = val (D.take m) + pw m * (nth D m + 1000000000 * nth D (m + 1)) := by
  have := val_split D m (by omega)
  rw [val_drop D m (by omega), val_drop D (m + 1) (by omega), List.drop_of_length_le (by omega)] at this
  simpa [val] using this
theorem top_three (X : List Nat) (m : Nat) (h : X.length = m + 3) : val X = val (X.take m) + pw m * (nth X m + 1000000000 * (nth X (m + 2) * 1000000000 + nth X (m + 1))) := by
  have := val_split X m (by omega)
  rw [val_drop X m (by omega), val_drop X (m + 1) (by omega), val_drop X (m + 2) (by omega), List.drop_of_length_le (by omega)] at this
  rw [this]; congr 2; simp [val]; omega

end Go.Proofs.YtafhepbplffmeaaDoor.Num

/-
  Plain mathematics of the loop of long division. No conditions but those of each lemma.
-/
namespace Go.Proofs.YtafhepbplffmeaaDoor.Num

theorem factor_ge {t : Nat} (h1 : 1 ≤ t) (h2 : t < 1000000000) : 1 ≤ 1000000000 / (t + 1) ∧ 1000000000 / (t + 1) < 1000000000 ∧ 1000000000 / (t + 1) * (t + 1) ≤ 1000000000 := by
  refine ⟨(Nat.le_div_iff_mul_le (by omega)).2 (by omega), Nat.div_lt_self (by omega) (by omega), Nat.div_mul_le_self _ _⟩

/-- The divisor times the factor has as many limbs as the divisor. -/
theorem scaled_lt {b : List Nat} {m F : Nat} (hb : Cano b) (hl : b.length = m + 2) (hF : F * (nth b (m + 1) + 1) ≤ 1000000000) : F * val b < pw (m + 2) ∨ F = 0 := by
  rcases Nat.eq_zero_or_pos F with h0 | h0
  · exact .inr h0
  · left
    have e := val_take_succ' b (m + 1)
    rw [List.take_of_length_le (by omega)] at e
    have h1 := val_take_lt hb.1 (m + 1) (by omega)
    have h2 : val b < pw (m + 1) * (nth b (m + 1) + 1) := by rw [e, Nat.mul_add, Nat.mul_one]; omega
    have h3 : F * val b < F * (pw (m + 1) * (nth b (m + 1) + 1)) := (Nat.mul_lt_mul_left h0).2 h2
    have h4 : F * (pw (m + 1) * (nth b (m + 1) + 1)) = pw (m + 1) * (F * (nth b (m + 1) + 1)) := by rw [Nat.mul_left_comm]
    have h5 : pw (m + 1) * (F * (nth b (m + 1) + 1)) ≤ pw (m + 1) * 1000000000 := Nat.mul_le_mul_left _ hF
    rw [show m + 2 = (m + 1) + 1 from rfl, pw_succ, Nat.mul_comm 1000000000]
    omega

theorem scaled_len {b D : List Nat} {m F : Nat} (hb : Cano b) (hD : Cano D) (hl : b.length = m + 2) (hF : F * (nth b (m + 1) + 1) ≤ 1000000000) (hF1 : 1 ≤ F) (hv : val D = F * val b) : D.length = m + 2 := by
  have h1 : F * val b < pw (m + 2) := by rcases scaled_lt hb hl hF with h | h; exact h; omega
  have h2 := hb.pos (by omega)
  rw [hl, show m + 2 - 1 = m + 1 by omega] at h2
  have h3 : 1 * val b ≤ F * val b := Nat.mul_le_mul_right _ hF1
  have h4 := val_lt hD.1
  rcases Nat.lt_trichotomy D.length (m + 2) with h | h | h
  · have := pw_le (show D.length ≤ m + 1 by omega); omega
  · exact h
  · have h5 := hD.pos (by omega)
    have := pw_le (show m + 2 ≤ D.length - 1 by omega); omega

/-- The leading limbs are below the divisor. -/
theorem start_lt {R a b : List Nat} {m F : Nat} {Dv : Nat} (ca : Cano a) (hb : Cano b) (hl : b.length = m + 2) (hR : val R = F * val a) (hRl : R.length = a.length + 1) (hal : m + 2 ≤ a.length) (hF1 : 1 ≤ F) (hD : Dv = F * val b) :
    val (R.drop (a.length - m - 1)) < Dv := by
  have h1 := val_split R (a.length - m - 1) (by omega)
  have h2 := hb.pos (by omega)
  rw [hl, show m + 2 - 1 = m + 1 by omega] at h2
  have h3 := val_lt ca.1
  have h4 : pw a.length = pw (a.length - m - 1) * pw (m + 1) := by rw [← pw_add]; congr 1; omega
  have h5 : pw (a.length - m - 1) * val (R.drop (a.length - m - 1)) < pw (a.length - m - 1) * Dv := by
    have e1 : F * val a < F * pw a.length := (Nat.mul_lt_mul_left (by omega)).2 h3
    have e2 : F * pw a.length ≤ pw (a.length - m - 1) * Dv := by
      rw [h4, hD, Nat.mul_left_comm]
      exact Nat.mul_le_mul_left _ (Nat.mul_le_mul_left _ h2)
    omega
  exact Nat.lt_of_mul_lt_mul_left h5

/-- One window: the row is cut into what stands below it, the window, and what stands above it. -/
theorem window {R : List Nat} {i m N Dv : Nat} (hN : R.length = N) (hi : i + (m + 3) ≤ N) (hlo : Lo R) (hd : val (R.drop (i + 1)) < Dv) (hDv : Dv ≤ pw (m + 2)) :
    R = R.take i ++ (R.drop i).take (m + 3) ++ R.drop (i + (m + 3)) ∧ val (R.drop (i + (m + 3))) = 0 ∧ val ((R.drop i).take (m + 3)) < Dv * 1000000000 ∧ val R = val (R.take i) + pw i * val ((R.drop i).take (m + 3)) := by
  have e1 : (R.drop i).drop (m + 3) = R.drop (i + (m + 3)) := by rw [List.drop_drop]
  have e2 : R = R.take i ++ (R.drop i).take (m + 3) ++ R.drop (i + (m + 3)) := by
    rw [List.append_assoc, ← e1, List.take_append_drop, List.take_append_drop]
  have h1 := val_split (R.drop (i + 1)) (m + 2) (by simp; omega)
  rw [List.drop_drop, show i + 1 + (m + 2) = i + (m + 3) by omega] at h1
  have h0 : val (R.drop (i + (m + 3))) = 0 := by
    rcases Nat.eq_zero_or_pos (val (R.drop (i + (m + 3)))) with h | h
    · exact h
    · have : pw (m + 2) * 1 ≤ pw (m + 2) * val (R.drop (i + (m + 3))) := Nat.mul_le_mul_left _ h
      omega
  have h2 := val_split (R.drop i) (m + 3) (by simp; omega)
  rw [e1, h0, Nat.mul_zero, Nat.add_zero] at h2
  have h3 := val_drop R i (by omega)
  have h4 := val_split R i (by omega)
  have h5 := hlo i
  refine ⟨e2, h0, by omega, by rw [← h2]; exact h4⟩

theorem drop_mid (pre X post : List Nat) (i : Nat) (h : pre.length = i) : (pre ++ X ++ post).drop i = X ++ post := by
  rw [List.append_assoc, ← h]; simp

/-- What a round of the loop keeps. -/
theorem div_step {V0 vp vx vx' d Dv Q Q' : Nat} {i : Nat} (h : V0 = (vp + pw i * vx) + Q * Dv * pw (i + 1)) (hx : vx = d * Dv + vx') (hq : Q' = d + 1000000000 * Q) : V0 = (vp + pw i * vx') + Q' * Dv * pw i := by
  rw [h, hx, hq, pw_succ]; grind

theorem div_end {a b F R Q : Nat} (hF : 1 ≤ F) (h : F * a = R + Q * (F * b)) (hR : R < F * b) : Q = a / b ∧ R / F = a % b := by
  have hb : 0 < b := by
    rcases Nat.eq_zero_or_pos b with h0 | h0
    · rw [h0, Nat.mul_zero] at hR; omega
    · exact h0
  have h1 : F ∣ R := by
    have : R = F * a - F * (Q * b) := by rw [Nat.mul_left_comm F Q b]; omega
    rw [this]
    exact Nat.dvd_sub (Nat.dvd_mul_right F a) (Nat.dvd_mul_right F (Q * b))
  obtain ⟨r, rfl⟩ := h1
  have h2 : r < b := Nat.lt_of_mul_lt_mul_left hR
  have h3 : F * a = F * (r + Q * b) := by rw [h, Nat.mul_add, Nat.mul_left_comm]
  have h4 : a = r + Q * b := Nat.eq_of_mul_eq_mul_left hF h3
  rw [Nat.mul_div_cancel_left r hF, h4, Nat.add_mul_div_right _ _ hb, Nat.add_mul_mod_self_right, Nat.div_eq_of_lt h2, Nat.mod_eq_of_lt h2]
  omega

theorem cano_len {l : List Nat} {k : Nat} (h : Cano l) (hv : val l < pw k) : l.length ≤ k := by
  rcases Nat.lt_or_ge k l.length with h1 | h1
  · have h2 := h.pos (by omega)
    have := pw_le (show k ≤ l.length - 1 by omega); omega
  · exact h1

theorem lo_append {a b : List Nat} (ha : Lo a) (hb : Lo b) : Lo (a ++ b) := fun i => by
  rcases Nat.lt_or_ge i a.length with h | h
  · rw [nth_append_left _ _ _ h]; exact ha i
  · obtain ⟨k, rfl⟩ : ∃ k, i = a.length + k := ⟨i - a.length, by omega⟩
    rw [nth_append_right]; exact hb k

theorem val_tail (X : List Nat) {post : List Nat} (h : val post = 0) : val (X ++ post) = val X := by
  rw [val_append, h, Nat.mul_zero, Nat.add_zero]

theorem val_mid {pre : List Nat} (X : List Nat) {post : List Nat} {i : Nat} (hp : pre.length = i) (h : val post = 0) : val (pre ++ X ++ post) = val pre + pw i * val X := by
  rw [List.append_assoc, val_append, val_tail X h, hp]

theorem set_drop_val (Q : List Nat) (i d : Nat) (h : i < Q.length) : val ((Q.set i d).drop i) = d + 1000000000 * val (Q.drop (i + 1)) := by
  rw [drop_cons _ _ (by simpa using h), nth_set _ _ _ _ h, if_pos rfl, drop_set_gt]; rfl

end Go.Proofs.YtafhepbplffmeaaDoor.Num

/-
  Plain mathematics of Lehmer's steps: which steps of Euclid's algorithm the leading limbs determine, that nothing overflows, that the greatest common divisor stays. No conditions but those of each lemma.
-/
namespace Go.Proofs.YtafhepbplffmeaaDoor.Num

/-- The state of the steps, where the first coefficient is not negative. -/
def Ev (P Q a b c d X Y : Int) : Prop :=
  0 ≤ a ∧ b ≤ 0 ∧ c ≤ 0 ∧ 0 ≤ d ∧ a * d - b * c = 1 ∧ X = a * P + b * Q ∧ Y = c * P + d * Q ∧ 0 ≤ X + b ∧ 0 ≤ Y + c ∧
    a ≤ 999999999 ∧ -999999999 ≤ b ∧ -999999999 ≤ c ∧ d ≤ 999999999 ∧ X ≤ 999999999999999999 ∧ Y ≤ 999999999999999999

theorem small_of_mul {u Y P : Int} (h1 : u < Y) (h2 : u * Y ≤ P) (hP : P ≤ 999999999999999999) : u ≤ 999999999 := by
  rcases (show 999999999 < u ∨ u ≤ 999999999 from by omega) with h | h
  · have h3 : (1000000000 : Int) * 1000000000 ≤ u * Y := Int.mul_le_mul (by omega) (by omega) (by omega) (by omega)
    omega
  · exact h

theorem ev_step {P Q a b c d X Y q : Int} (h : Ev P Q a b c d X Y) (hP : P ≤ 999999999999999999) (hQ : Q ≤ 999999999999999999) (h0 : 0 < Y + c)
    (h1 : q * (Y + c) ≤ X + a) (h2 : X + a < (q + 1) * (Y + c)) (h3 : q * (Y + d) ≤ X + b) :
    0 ≤ q ∧ Ev Q P d c (b - q * d) (a - q * c) Y (X - q * Y) ∧ (X - q * Y) + (a - q * c) < Y + c := by
  obtain ⟨ha, hb, hc, hd, det, hX, hY, hXb, hYc, ba, bb, bc, bd, bX, bY⟩ := h
  have hq : 0 ≤ q := by
    rcases (show q < 0 ∨ 0 ≤ q from by omega) with hneg | hpos
    · have : (q + 1) * (Y + c) ≤ 0 := Int.mul_nonpos_of_nonpos_of_nonneg (by omega) (by omega)
      omega
    · exact hpos
  have hqc : q * c ≤ 0 := Int.mul_nonpos_of_nonneg_of_nonpos hq hc
  have hqd : 0 ≤ q * d := Int.mul_nonneg hq hd
  have e1 : q * (Y + c) = q * Y + q * c := Int.mul_add ..
  have e2 : (q + 1) * (Y + c) = q * Y + q * c + Y + c := by grind
  have e3 : q * (Y + d) = q * Y + q * d := Int.mul_add ..
  have hS : (a - q * c) - (b - q * d) < Y + c := by omega
  have hr : 0 ≤ X - q * Y := by omega
  have f1 : P = -(b - q * d) * Y + d * (X - q * Y) := by grind
  have f2 : Q = (a - q * c) * Y - c * (X - q * Y) := by grind
  have g1 : 0 ≤ d * (X - q * Y) := Int.mul_nonneg hd hr
  have g2 : c * (X - q * Y) ≤ 0 := Int.mul_nonpos_of_nonpos_of_nonneg hc hr
  have k1 := small_of_mul (u := -(b - q * d)) (Y := Y) (P := P) (by omega) (by omega) hP
  have k2 := small_of_mul (u := a - q * c) (Y := Y) (P := Q) (by omega) (by omega) hQ
  refine ⟨hq, ⟨hd, hc, by omega, by omega, by grind, by omega, by grind, by omega, by omega, bd, bc, by omega, k2, bY, by omega⟩, by omega⟩

/-- What the leading limbs say of the whole numbers. -/
theorem ev_fin {P Q a b c d X Y β x y p q : Int} (h : Ev P Q a b c d X Y) (hpr : Y + d < X + b) (hβ : 0 < β) (hx : x = P * β + p) (hy : y = Q * β + q) (hp : 0 ≤ p ∧ p < β) (hq : 0 ≤ q ∧ q < β) :
    0 ≤ c * x + d * y ∧ c * x + d * y < a * x + b * y ∧ y = -c * (a * x + b * y) + a * (c * x + d * y) ∧ x = d * (a * x + b * y) - b * (c * x + d * y) := by
  obtain ⟨ha, hb, hc, hd, det, hX, hY, hXb, hYc, ba, bb, bc, bd, bX, bY⟩ := h
  have e1 : c * x + d * y = (Y + c) * β - c * (β - p) + d * q := by grind
  have e2 : a * x + b * y - (c * x + d * y) = (X + b - (Y + d)) * β + (a - c) * p - (b - d) * (β - q) := by grind
  have g1 : 0 ≤ (Y + c) * β := Int.mul_nonneg hYc (by omega)
  have g2 : c * (β - p) ≤ 0 := Int.mul_nonpos_of_nonpos_of_nonneg hc (by omega)
  have g3 : 0 ≤ d * q := Int.mul_nonneg hd hq.1
  have g4 : 1 * β ≤ (X + b - (Y + d)) * β := Int.mul_le_mul_of_nonneg_right (by omega) (by omega)
  have g5 : 0 ≤ (a - c) * p := Int.mul_nonneg (by omega) hp.1
  have g6 : (b - d) * (β - q) ≤ 0 := Int.mul_nonpos_of_nonpos_of_nonneg (by omega) (by omega)
  exact ⟨by omega, by omega, by grind, by grind⟩

theorem gcd_of_combos {x y u v a b c d a' b' c' d' : Int} (hu : u = a * x + b * y) (hv : v = c * x + d * y) (hx : x = a' * u + b' * v) (hy : y = c' * u + d' * v) : Int.gcd u v = Int.gcd x y := by
  apply Nat.dvd_antisymm
  · apply Int.dvd_gcd
    · rw [hx]; exact Int.dvd_add (Int.dvd_mul_of_dvd_right (Int.gcd_dvd_left _ _)) (Int.dvd_mul_of_dvd_right (Int.gcd_dvd_right _ _))
    · rw [hy]; exact Int.dvd_add (Int.dvd_mul_of_dvd_right (Int.gcd_dvd_left _ _)) (Int.dvd_mul_of_dvd_right (Int.gcd_dvd_right _ _))
  · apply Int.dvd_gcd
    · rw [hu]; exact Int.dvd_add (Int.dvd_mul_of_dvd_right (Int.gcd_dvd_left _ _)) (Int.dvd_mul_of_dvd_right (Int.gcd_dvd_right _ _))
    · rw [hv]; exact Int.dvd_add (Int.dvd_mul_of_dvd_right (Int.gcd_dvd_left _ _)) (Int.dvd_mul_of_dvd_right (Int.gcd_dvd_right _ _))

/-- The invariant of leadingSteps: no step yet, or some. -/
def Inv (P Q a b c d X Y : Int) : Prop :=
  (a = 1 ∧ b = 0 ∧ c = 0 ∧ d = 1 ∧ X = P ∧ Y = Q ∧ Ev P Q a b c d X Y) ∨ (Ev P Q a b c d X Y ∧ Y + d < X + b ∧ c ≤ -1) ∨ (Ev Q P b a d c X Y ∧ Y + c < X + a ∧ 1 ≤ c)

theorem inv_start {P Q : Int} (hP0 : 0 ≤ P) (hQ0 : 0 ≤ Q) (hP : P ≤ 999999999999999999) (hQ : Q ≤ 999999999999999999) : Inv P Q 1 0 0 1 P Q :=
  .inl ⟨rfl, rfl, rfl, rfl, rfl, rfl, by omega, by omega, by omega, by omega, by omega, by omega, by omega, by omega, by omega, by omega, by omega, by omega, by omega, by omega, by omega⟩

/-- The bounds that a round wants. -/
theorem inv_bounds {P Q a b c d X Y : Int} (h : Inv P Q a b c d X Y) :
    (-999999999 ≤ a ∧ a ≤ 999999999) ∧ (-999999999 ≤ b ∧ b ≤ 999999999) ∧ (-999999999 ≤ c ∧ c ≤ 999999999) ∧ (-999999999 ≤ d ∧ d ≤ 999999999) ∧ X ≤ 999999999999999999 ∧ Y ≤ 999999999999999999 ∧ 0 ≤ X ∧ 0 ≤ Y ∧
      0 ≤ X + a ∧ 0 ≤ X + b ∧ 0 ≤ Y + c ∧ 0 ≤ Y + d := by
  rcases h with ⟨_, _, _, _, _, _, h⟩ | ⟨h, _⟩ | ⟨h, _⟩ <;> (unfold Ev at h; omega)

theorem quo_facts {x y q : Int} (hy : 0 < y) (hq : q = x / y) : q * y ≤ x ∧ x < (q + 1) * y := by
  subst hq
  refine ⟨Int.ediv_mul_le _ (by omega), Int.lt_ediv_add_one_mul_self _ hy⟩

/-- A round in which the quotients agree. -/
theorem inv_step {P Q a b c d X Y q : Int} (h : Inv P Q a b c d X Y) (hP : P ≤ 999999999999999999) (hQ : Q ≤ 999999999999999999) (h0 : 0 < Y + c) (h1 : 0 < Y + d) (hq1 : q = (X + a) / (Y + c)) (hq2 : q = (X + b) / (Y + d)) :
    Inv P Q c d (a - q * c) (b - q * d) Y (X - q * Y) ∧ 0 ≤ q ∧ X - q * Y < Y ∧ (-999999999 ≤ q * c ∧ q * c ≤ 999999999) ∧ (-999999999 ≤ q * d ∧ q * d ≤ 999999999) ∧ 0 ≤ q * Y ∧ q * Y ≤ X := by
  obtain ⟨k1, k2⟩ := quo_facts h0 hq1
  obtain ⟨k3, k4⟩ := quo_facts h1 hq2
  have hb := inv_bounds h
  rcases h with ⟨ea, eb, ec, ed, _, _, h⟩ | ⟨h, hpr, hc⟩ | ⟨h, hpr, hc⟩
  · obtain ⟨g1, g2, g3⟩ := ev_step h hP hQ h0 k1 k2 k3
    have g4 : 0 ≤ q * Y := Int.mul_nonneg g1 (by omega)
    have g5 := g2
    unfold Ev at g5
    have e0 : q * c = 0 := by rw [ec, Int.mul_zero]
    refine ⟨.inr (.inr ⟨g2, by omega, by omega⟩), g1, by omega, by omega, by unfold Ev at h; omega, g4, by omega⟩
  · obtain ⟨g1, g2, g3⟩ := ev_step h hP hQ h0 k1 k2 k3
    have hq1 : 1 ≤ q := by
      rcases (show q < 1 ∨ 1 ≤ q from by omega) with h5 | h5
      · have : q = 0 := by omega
        rw [this] at k4; omega
      · exact h5
    have g4 : 0 ≤ q * Y := Int.mul_nonneg g1 (by omega)
    have g5 := g2
    unfold Ev at g5 h
    have e0 : 1 * -c ≤ q * -c := Int.mul_le_mul_of_nonneg_right hq1 (by omega)
    simp only [Int.mul_neg] at e0
    refine ⟨.inr (.inr ⟨g2, by omega, by omega⟩), g1, by omega, by omega, by omega, g4, by omega⟩
  · obtain ⟨g1, g2, g3⟩ := ev_step h hQ hP h1 k3 k4 k1
    have hq1 : 1 ≤ q := by
      rcases (show q < 1 ∨ 1 ≤ q from by omega) with h5 | h5
      · have : q = 0 := by omega
        rw [this] at k2; omega
      · exact h5
    have g4 : 0 ≤ q * Y := Int.mul_nonneg g1 (by omega)
    have g5 := g2
    unfold Ev at g5 h
    have e0 : 1 * c ≤ q * c := Int.mul_le_mul_of_nonneg_right hq1 (by omega)
    refine ⟨.inr (.inl ⟨g2, by omega, by omega⟩), g1, by omega, by omega, by omega, g4, by omega⟩

/-- What the steps give: some steps of Euclid's algorithm at once. -/
theorem lehmer_fin {P Q a b c d X Y β x y p q : Int} (h : Inv P Q a b c d X Y) (hb : b ≠ 0) (hβ : 0 < β) (hx : x = P * β + p) (hy : y = Q * β + q) (hp : 0 ≤ p ∧ p < β) (hq : 0 ≤ q ∧ q < β) :
    0 ≤ c * x + d * y ∧ c * x + d * y < a * x + b * y ∧ a * x + b * y ≤ y ∧ Int.gcd (a * x + b * y) (c * x + d * y) = Int.gcd x y := by
  rcases h with ⟨_, h0, _⟩ | ⟨h, hpr, hc⟩ | ⟨h, hpr, hc⟩
  · exact absurd h0 hb
  · obtain ⟨g1, g2, g3, g4⟩ := ev_fin h hpr hβ hx hy hp hq
    unfold Ev at h
    have g5 : 0 ≤ a * (c * x + d * y) := Int.mul_nonneg h.1 g1
    have g6 : 1 * (a * x + b * y) ≤ -c * (a * x + b * y) := Int.mul_le_mul_of_nonneg_right (by omega) (by omega)
    refine ⟨g1, g2, by omega, gcd_of_combos (a := a) (b := b) (c := c) (d := d) (a' := d) (b' := -b) (c' := -c) (d' := a) rfl rfl ?_ g3⟩
    rw [Int.neg_mul]; omega
  · obtain ⟨g1, g2, g3, g4⟩ := ev_fin h hpr hβ hy hx hq hp
    unfold Ev at h
    have e1 : d * y + c * x = c * x + d * y := Int.add_comm ..
    have e2 : b * y + a * x = a * x + b * y := Int.add_comm ..
    rw [e1] at g1 g2 g3 g4
    rw [e2] at g2 g3 g4
    have g5 : a * (c * x + d * y) ≤ 0 := Int.mul_nonpos_of_nonpos_of_nonneg (by omega) g1
    have g6 : 1 * (a * x + b * y) ≤ c * (a * x + b * y) := Int.mul_le_mul_of_nonneg_right (by omega) (by omega)
    refine ⟨g1, g2, by omega, gcd_of_combos (a := a) (b := b) (c := c) (d := d) (a' := -d) (b' := b) (c' := c) (d' := -a) rfl rfl g3 ?_⟩
    rw [Int.neg_mul]; omega

end Go.Proofs.YtafhepbplffmeaaDoor.Num
