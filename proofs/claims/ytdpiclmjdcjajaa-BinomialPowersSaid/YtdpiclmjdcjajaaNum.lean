/-
  Plain mathematics of limb lists in base 10^9: the value of a list, canonical lists, one step of a carry. No conditions but those of each lemma.
-/
namespace Go.Proofs.Ytdpiclmjdcjajaa.Num

/-- The limb at place i, 0 behind the end. -/
def nth (l : List Nat) (i : Nat) : Nat := l.getD i 0

/-- What a list of limbs denotes. -/
def val : List Nat → Nat
  | [] => 0
  | x :: l => x + 1000000000 * val l

def pw (n : Nat) : Nat := 1000000000 ^ n

theorem pw_zero : pw 0 = 1 := rfl
theorem pw_succ (n : Nat) : pw (n + 1) = 1000000000 * pw n := by unfold pw; rw [Nat.pow_succ, Nat.mul_comm]
theorem pw_pos (n : Nat) : 1 ≤ pw n := by unfold pw; exact Nat.one_le_pow _ _ (by omega)
theorem pw_add (m n : Nat) : pw (m + n) = pw m * pw n := by unfold pw; exact Nat.pow_add ..
theorem pw_le {m n : Nat} (h : m ≤ n) : pw m ≤ pw n := by unfold pw; exact Nat.pow_le_pow_right (by omega) h

theorem nth_cons_zero (x : Nat) (l : List Nat) : nth (x :: l) 0 = x := rfl
theorem nth_cons_succ (x : Nat) (l : List Nat) (i : Nat) : nth (x :: l) (i + 1) = nth l i := rfl
theorem nth_nil (i : Nat) : nth [] i = 0 := rfl
theorem nth_out {l : List Nat} {i : Nat} (h : l.length ≤ i) : nth l i = 0 := by unfold nth; simp [List.getD, List.getElem?_eq_none h]
theorem nth_eq {l : List Nat} {i : Nat} (h : i < l.length) : nth l i = l[i] := by unfold nth; simp [List.getD, h]
theorem nth_set (l : List Nat) (i j x : Nat) (h : i < l.length) : nth (l.set i x) j = if j = i then x else nth l j := by
  unfold nth
  rw [List.getD, List.getD, List.getElem?_set]
  by_cases e : i = j
  · subst e; simp [h]
  · simp [e, Ne.symm e]
theorem nth_take (l : List Nat) (k i : Nat) : nth (l.take k) i = if i < k then nth l i else 0 := by
  unfold nth
  rw [List.getD, List.getD, List.getElem?_take]
  split <;> simp
theorem nth_drop (l : List Nat) (k i : Nat) : nth (l.drop k) i = nth l (k + i) := by
  unfold nth
  rw [List.getD, List.getD, List.getElem?_drop]
theorem nth_append_left (a b : List Nat) (i : Nat) (h : i < a.length) : nth (a ++ b) i = nth a i := by
  unfold nth; rw [List.getD, List.getD, List.getElem?_append_left h]
theorem nth_append_right (a b : List Nat) (i : Nat) : nth (a ++ b) (a.length + i) = nth b i := by
  unfold nth; rw [List.getD, List.getD, List.getElem?_append_right (by omega)]; congr 2; omega
theorem nth_replicate (n i : Nat) : nth (List.replicate n 0) i = 0 := by
  unfold nth; rw [List.getD, List.getElem?_replicate]; split <;> rfl
theorem ext_nth {a b : List Nat} (hl : a.length = b.length) (h : ∀ i, i < a.length → nth a i = nth b i) : a = b := by
  apply List.ext_getElem hl
  intro i h1 h2
  have := h i h1
  rwa [nth_eq h1, nth_eq h2] at this

theorem val_append (a b : List Nat) : val (a ++ b) = val a + pw a.length * val b := by
  induction a with
  | nil => simp [val, pw]
  | cons x a ih => simp only [List.cons_append, val, ih, List.length_cons, pw_succ]; grind

theorem val_split (l : List Nat) (i : Nat) (h : i ≤ l.length) : val l = val (l.take i) + pw i * val (l.drop i) := by
  have := val_append (l.take i) (l.drop i)
  rwa [List.take_append_drop, List.length_take, Nat.min_eq_left h] at this

theorem drop_cons (l : List Nat) (i : Nat) (h : i < l.length) : l.drop i = nth l i :: l.drop (i + 1) := by
  rw [nth_eq h]; exact List.drop_eq_getElem_cons h

theorem val_drop (l : List Nat) (i : Nat) (h : i < l.length) : val (l.drop i) = nth l i + 1000000000 * val (l.drop (i + 1)) := by
  rw [drop_cons l i h]; rfl

theorem take_snoc (l : List Nat) (i : Nat) (h : i < l.length) : l.take (i + 1) = l.take i ++ [nth l i] := by
  rw [nth_eq h]; exact List.take_succ_eq_append_getElem h

theorem val_take_succ (l : List Nat) (i : Nat) (h : i < l.length) : val (l.take (i + 1)) = val (l.take i) + pw i * nth l i := by
  rw [take_snoc l i h, val_append, List.length_take, Nat.min_eq_left (by omega)]; simp [val]

theorem val_replicate (n : Nat) : val (List.replicate n 0) = 0 := by
  induction n with
  | zero => rfl
  | succ n ih => simp [List.replicate_succ, val, ih]

theorem val_zeros {l : List Nat} (h : ∀ i, i < l.length → nth l i = 0) : val l = 0 := by
  induction l with
  | nil => rfl
  | cons x l ih =>
    have hx : x = 0 := h 0 (by simp)
    have := ih (fun i hi => h (i + 1) (by simp; omega))
    simp [val, hx, this]

theorem val_eq_zero {l : List Nat} (h : val l = 0) : ∀ i, nth l i = 0 := by
  induction l with
  | nil => intro i; rfl
  | cons x l ih =>
    simp only [val] at h
    intro i
    cases i with
    | zero => show x = 0; omega
    | succ i => exact ih (by omega) i

/-- Every limb is below the base. -/
def Lo (l : List Nat) : Prop := ∀ i, nth l i < 1000000000

theorem val_lt {l : List Nat} (h : Lo l) : val l < pw l.length := by
  induction l with
  | nil => simp [val, pw]
  | cons x l ih =>
    have hx : x < 1000000000 := h 0
    have := ih (fun i => h (i + 1))
    simp only [val, List.length_cons, pw_succ]; omega

theorem Lo.take {l : List Nat} (h : Lo l) (k : Nat) : Lo (l.take k) := fun i => by rw [nth_take]; split; exact h i; omega
theorem Lo.drop {l : List Nat} (h : Lo l) (k : Nat) : Lo (l.drop k) := fun i => by rw [nth_drop]; exact h _

theorem val_take_lt {l : List Nat} (h : Lo l) (k : Nat) (hk : k ≤ l.length) : val (l.take k) < pw k := by
  have := val_lt (h.take k)
  rwa [List.length_take, Nat.min_eq_left hk] at this

/-- Canonical limbs: below the base, none is 0 at the end. -/
def Cano (l : List Nat) : Prop := Lo l ∧ (l.length = 0 ∨ nth l (l.length - 1) ≠ 0)

theorem cano_nil : Cano [] := ⟨fun _ => by rw [nth_nil]; omega, .inl rfl⟩

theorem Cano.tail {x : Nat} {l : List Nat} (h : Cano (x :: l)) : Cano l := by
  refine ⟨fun i => h.1 (i + 1), ?_⟩
  rcases l with _ | ⟨y, l⟩
  · exact .inl rfl
  · right
    rcases h.2 with h2 | h2
    · simp at h2
    · simpa [nth_cons_succ] using h2

theorem Cano.pos {l : List Nat} (h : Cano l) (hl : l.length ≠ 0) : pw (l.length - 1) ≤ val l := by
  have h2 : nth l (l.length - 1) ≠ 0 := by rcases h.2 with h2 | h2; exact absurd h2 hl; exact h2
  have := val_take_succ l (l.length - 1) (by omega)
  rw [show l.length - 1 + 1 = l.length by omega, List.take_length] at this
  have h3 : pw (l.length - 1) * 1 ≤ pw (l.length - 1) * nth l (l.length - 1) := Nat.mul_le_mul_left _ (by omega)
  omega

theorem Cano.zero {l : List Nat} (h : Cano l) : val l = 0 ↔ l.length = 0 := by
  constructor
  · intro hv
    rcases Nat.eq_zero_or_pos l.length with h0 | h0
    · exact h0
    · have := h.pos (by omega); have := pw_pos (l.length - 1); omega
  · intro h0
    rw [List.eq_nil_of_length_eq_zero h0]; rfl

theorem can_unique {a b : List Nat} (ha : Cano a) (hb : Cano b) (h : val a = val b) : a = b := by
  induction a generalizing b with
  | nil =>
    have := (hb.zero).1 h.symm
    exact (List.eq_nil_of_length_eq_zero this).symm
  | cons x a ih =>
    cases b with
    | nil => have := (ha.zero).1 h; simp at this
    | cons y b =>
      have hx : x < 1000000000 := ha.1 0
      have hy : y < 1000000000 := hb.1 0
      simp only [val] at h
      have e1 : x = y := by omega
      have e2 : val a = val b := by omega
      rw [e1, ih ha.tail hb.tail e2]

theorem can_len_lt {a b : List Nat} (ha : Cano a) (hb : Cano b) (h : a.length < b.length) : val a < val b := by
  have h1 := val_lt ha.1
  have h2 := hb.pos (by omega)
  have h3 := pw_le (show a.length ≤ b.length - 1 by omega)
  omega

/-- Lists that agree above i and differ at i. -/
theorem val_lt_at {a b : List Nat} (ha : Lo a) (hl : a.length = b.length) (i : Nat) (hi : i < a.length) (hd : a.drop (i + 1) = b.drop (i + 1)) (hlt : nth a i < nth b i) : val a < val b := by
  have e1 := val_split a i (by omega)
  have e2 := val_split b i (by omega)
  have d1 := val_drop a i hi
  have d2 := val_drop b i (by omega)
  have t1 := val_take_lt ha i (by omega)
  have e3 : pw i * (val (a.drop i) + 1) ≤ pw i * val (b.drop i) := Nat.mul_le_mul_left _ (by rw [d1, d2, hd]; omega)
  rw [Nat.mul_add] at e3
  omega

/-- Cutting zeros off the end. -/
theorem val_take_zeros {l : List Nat} (k : Nat) (hk : k ≤ l.length) (h : ∀ i, k ≤ i → nth l i = 0) : val (l.take k) = val l := by
  have := val_split l k hk
  have h0 : val (l.drop k) = 0 := val_zeros fun i _ => by rw [nth_drop]; exact h _ (by omega)
  rw [this, h0]; omega

theorem can_take {l : List Nat} (hl : Lo l) (k : Nat) (hk : k ≤ l.length) (h : k = 0 ∨ nth l (k - 1) ≠ 0) : Cano (l.take k) := by
  refine ⟨hl.take k, ?_⟩
  rw [List.length_take, Nat.min_eq_left hk]
  rcases h with h | h
  · exact .inl h
  · rcases Nat.eq_zero_or_pos k with h0 | h0
    · exact .inl h0
    · right; rw [nth_take, if_pos (by omega)]; exact h

theorem set_take_succ (L : List Nat) (k x : Nat) (hk : k < L.length) : (L.set k x).take (k + 1) = L.take k ++ [x] := by
  rw [take_snoc _ _ (by simpa using hk), nth_set _ _ _ _ hk, if_pos rfl, List.take_set_of_le (by omega)]

theorem val_set_take (L : List Nat) (k x : Nat) (hk : k < L.length) : val ((L.set k x).take (k + 1)) = val (L.take k) + pw k * x := by
  rw [set_take_succ L k x hk, val_append, List.length_take, Nat.min_eq_left (by omega)]; simp [val]

/-- One step of a carry: the limb t % 10^9 is stored at place k, t / 10^9 goes on. -/
theorem carry_step (L : List Nat) (k t S : Nat) (hk : k < L.length) (h : val (L.take k) + pw k * t = S) :
    val ((L.set k (t % 1000000000)).take (k + 1)) + pw (k + 1) * (t / 1000000000) = S := by
  rw [val_set_take L k _ hk, pw_succ]
  have := Nat.div_add_mod t 1000000000
  have e : pw k * t = 1000000000 * pw k * (t / 1000000000) + pw k * (t % 1000000000) := by
    rw [Nat.mul_comm 1000000000 (pw k), Nat.mul_assoc, ← Nat.mul_add, this]
  omega

theorem lo_set {L : List Nat} {k x : Nat} (hk : k < L.length) (h : ∀ i, i < k → nth L i < 1000000000) (hx : x < 1000000000) : ∀ i, i < k + 1 → nth (L.set k x) i < 1000000000 := by
  intro i hi
  rw [nth_set _ _ _ _ hk]
  split
  · exact hx
  · exact h i (by omega)

theorem lo_of {L : List Nat} (h : ∀ i, i < L.length → nth L i < 1000000000) : Lo L := fun i => by
  by_cases hi : i < L.length
  · exact h i hi
  · rw [nth_out (by omega)]; omega

end Go.Proofs.Ytdpiclmjdcjajaa.Num
