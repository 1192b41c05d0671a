/-
  Plain mathematics of tokens: what a split of a list of bytes is, and what follows from it. No conditions but those of each lemma.
-/
namespace Go.Proofs.YtdlcmnfjhnfjcaaDoor
namespace Tok

def lowB (b : UInt8) : Bool := decide (97 ≤ b.toNat ∧ b.toNat ≤ 122)
def uppB (b : UInt8) : Bool := decide (65 ≤ b.toNat ∧ b.toNat ≤ 90)
def digB (b : UInt8) : Bool := decide (48 ≤ b.toNat ∧ b.toNat ≤ 57)
def nameB (b : UInt8) : Bool := lowB b || uppB b || digB b || decide (b.toNat = 95)
def gapB (b : UInt8) : Bool := decide (b.toNat = 9 ∨ b.toNat = 13 ∨ b.toNat = 32)

theorem lowB_iff (b : UInt8) : lowB b = true ↔ 97 ≤ b.toNat ∧ b.toNat ≤ 122 := by simp [lowB]
theorem uppB_iff (b : UInt8) : uppB b = true ↔ 65 ≤ b.toNat ∧ b.toNat ≤ 90 := by simp [uppB]
theorem digB_iff (b : UInt8) : digB b = true ↔ 48 ≤ b.toNat ∧ b.toNat ≤ 57 := by simp [digB]
theorem gapB_iff (b : UInt8) : gapB b = true ↔ b.toNat = 9 ∨ b.toNat = 13 ∨ b.toNat = 32 := by simp [gapB]

/-- What is left behind all blanks and comments; c: within a comment. -/
def skip : Bool → List UInt8 → List UInt8
  | _, [] => []
  | c, b :: r => if b.toNat = 10 then skip false r else if b.toNat = 35 then skip true r else if gapB b = true ∨ c = true then skip c r else b :: r

theorem skip_len : ∀ (l : List UInt8) (c : Bool), (skip c l).length ≤ l.length
  | [], c => by simp [skip]
  | b :: r, c => by
    unfold skip
    have h1 := skip_len r false
    have h2 := skip_len r true
    have h3 := skip_len r c
    repeat' split
    all_goals simp only [List.length_cons]
    all_goals omega

theorem skip_suffix : ∀ (l : List UInt8) (c : Bool), skip c l = l.drop (l.length - (skip c l).length)
  | [], c => by simp [skip]
  | b :: r, c => by
    have key : ∀ c', skip c (b :: r) = skip c' r → skip c (b :: r) = (b :: r).drop ((b :: r).length - (skip c (b :: r)).length) := by
      intro c' h
      rw [h]
      have hl := skip_len r c'
      have e : (b :: r).length - (skip c' r).length = (r.length - (skip c' r).length) + 1 := by simp only [List.length_cons]; omega
      rw [e, List.drop_succ_cons]
      exact skip_suffix r c'
    by_cases h1 : b.toNat = 10
    · exact key false (by rw [skip, if_pos h1])
    · by_cases h2 : b.toNat = 35
      · exact key true (by rw [skip, if_neg h1, if_pos h2])
      · by_cases h3 : gapB b = true ∨ c = true
        · exact key c (by rw [skip, if_neg h1, if_neg h2, if_pos h3])
        · have e : skip c (b :: r) = b :: r := by rw [skip, if_neg h1, if_neg h2, if_neg h3]
          rw [e]; simp

/-- The first byte that is left is no gap. -/
theorem skip_head : ∀ (l : List UInt8) (c : Bool) (b : UInt8) (r : List UInt8), skip c l = b :: r → b.toNat ≠ 10 ∧ b.toNat ≠ 35 ∧ gapB b = false
  | [], c, b, r => by simp [skip]
  | a :: l, c, b, r => by
    intro h
    unfold skip at h
    split at h
    · exact skip_head l _ b r h
    · split at h
      · exact skip_head l _ b r h
      · split at h
        · exact skip_head l _ b r h
        · rename_i h1 h2 h3
          injection h with h4 h5
          subst h4
          refine ⟨h1, h2, ?_⟩
          cases hg : gapB a
          · rfl
          · exact absurd (.inl hg) h3

theorem skip_of_head (b : UInt8) (r : List UInt8) (h1 : b.toNat ≠ 10) (h2 : b.toNat ≠ 35) (h3 : gapB b = false) : skip false (b :: r) = b :: r := by
  rw [skip, if_neg h1, if_neg h2, if_neg (by simp [h3])]

/-- Cut off behind, the same is left, cut off. -/
theorem skip_take : ∀ (l : List UInt8) (c : Bool) (m : Nat), skip c (l.take m) = (skip c l).take (m - (l.length - (skip c l).length))
  | [], c, m => by simp [skip]
  | b :: r, c, 0 => by simp [skip]
  | b :: r, c, m + 1 => by
    have key : ∀ c', skip c (b :: r) = skip c' r → skip c (b :: r.take m) = skip c' (r.take m) → skip c ((b :: r).take (m + 1)) = (skip c (b :: r)).take ((m + 1) - ((b :: r).length - (skip c (b :: r)).length)) := by
      intro c' h h'
      rw [List.take_succ_cons, h', h, skip_take r c' m]
      have hl := skip_len r c'
      congr 1
      simp only [List.length_cons]; omega
    by_cases h1 : b.toNat = 10
    · exact key false (by rw [skip, if_pos h1]) (by rw [skip, if_pos h1])
    · by_cases h2 : b.toNat = 35
      · exact key true (by rw [skip, if_neg h1, if_pos h2]) (by rw [skip, if_neg h1, if_pos h2])
      · by_cases h3 : gapB b = true ∨ c = true
        · exact key c (by rw [skip, if_neg h1, if_neg h2, if_pos h3]) (by rw [skip, if_neg h1, if_neg h2, if_pos h3])
        · have e : ∀ x, skip c (b :: x) = b :: x := fun x => by rw [skip, if_neg h1, if_neg h2, if_neg h3]
          rw [List.take_succ_cons, e, e]; simp

def kws : List (List UInt8) := [[97, 114, 114, 97, 121], [98, 111, 111, 108], [99, 97, 116, 99, 104], [100, 97, 116, 97], [101, 108, 115, 101], [101, 110, 100], [102, 97, 108, 115, 101], [102, 110], [102, 117, 110], [103, 101, 116], [105, 102], [105, 110], [105, 110, 116], [108, 101, 110], [108, 101, 116], [109, 97, 116, 99, 104], [110, 101, 119], [114, 97, 105, 115, 101], [114, 101, 97, 100], [114, 101, 102], [115, 101, 116], [116, 104, 101, 110], [116, 105, 99, 107], [116, 114, 117, 101], [116, 114, 121], [117, 110, 105, 116], [119, 105, 116, 104], [119, 114, 105, 116, 101]]
def signs : List (List UInt8) := [[45, 62], [60, 61], [61, 61], [40], [41], [44], [61], [124], [43], [45], [42], [47], [37], [60], [59], [95]]
def signOf (l : List UInt8) : Option (List UInt8) := signs.find? fun s => s.isPrefixOf l

def digits : Nat → List UInt8 → Nat
  | v, [] => v
  | v, b :: r => digits (10 * v + (b.toNat - 48)) r

theorem digits_ge : ∀ (l : List UInt8) (v : Nat), v ≤ digits v l
  | [], v => Nat.le_refl _
  | b :: r, v => Nat.le_trans (by omega) (digits_ge r _)
theorem digits_append : ∀ (l m : List UInt8) (v : Nat), digits v (l ++ m) = digits (digits v l) m
  | [], _, _ => rfl
  | _ :: r, m, _ => digits_append r m _
theorem digits_snoc (l : List UInt8) (b : UInt8) (v : Nat) : digits v (l ++ [b]) = 10 * digits v l + (b.toNat - 48) := by rw [digits_append]; rfl

def ones : List UInt8 := [40, 41, 44, 61, 124, 43, 45, 42, 47, 37, 60, 59, 95]
def two (l : List UInt8) : Bool := decide (2 ≤ l.length) && (l.take 2 == [45, 62] || l.take 2 == [60, 61] || l.take 2 == [61, 61])
def signLen (l : List UInt8) : Nat := if two l = true then 2 else match l with | [] => 0 | b :: _ => if b ∈ ones then 1 else 0

theorem sign_one (b : UInt8) (l : List UInt8) (h2 : two (b :: l) = false) : signOf (b :: l) = if b ∈ ones then some [b] else none := by
  by_cases hb : b ∈ ones
  · rw [if_pos hb]
    simp only [ones, List.mem_cons, List.not_mem_nil, or_false] at hb
    cases l with
    | nil =>
      rcases hb with rfl | rfl | rfl | rfl | rfl | rfl | rfl | rfl | rfl | rfl | rfl | rfl | rfl <;> rfl
    | cons c r =>
      simp only [two, List.length_cons, List.take_succ_cons, List.take_zero] at h2
      rcases hb with rfl | rfl | rfl | rfl | rfl | rfl | rfl | rfl | rfl | rfl | rfl | rfl | rfl <;> simp_all [signOf, signs, List.find?, List.isPrefixOf]
      all_goals rw [beq_eq_false_iff_ne.2 (Ne.symm h2)]
  · rw [if_neg hb]
    simp only [ones, List.mem_cons, List.not_mem_nil, or_false, not_or] at hb
    unfold signOf
    rw [List.find?_eq_none]
    intro s hs
    simp only [signs, List.mem_cons, List.not_mem_nil, or_false] at hs
    obtain ⟨h1, h2, h3, h4, h5, h6, h7, h8, h9, h10, h11, h12, h13⟩ := hb
    rcases hs with rfl | rfl | rfl | rfl | rfl | rfl | rfl | rfl | rfl | rfl | rfl | rfl | rfl | rfl | rfl | rfl <;> simp [List.isPrefixOf, Ne.symm h1, Ne.symm h2, Ne.symm h3, Ne.symm h4, Ne.symm h5, Ne.symm h6, Ne.symm h7, Ne.symm h8, Ne.symm h9, Ne.symm h10, Ne.symm h11, Ne.symm h12, Ne.symm h13]
theorem sign_two (l : List UInt8) (h2 : two l = true) : signOf l = some (l.take 2) := by
  unfold two at h2
  simp only [Bool.and_eq_true, decide_eq_true_eq, Bool.or_eq_true, beq_iff_eq] at h2
  obtain ⟨hl, h⟩ := h2
  match l, hl with
  | b :: c :: r, _ =>
    simp only [List.take_succ_cons, List.take_zero, List.cons.injEq, and_true] at h
    rcases h with (⟨rfl, rfl⟩ | ⟨rfl, rfl⟩) | ⟨rfl, rfl⟩ <;> rfl
/-- The sign at the head of a text, by its length. -/
theorem sign_eq (l : List UInt8) : signOf l = if signLen l = 0 then none else some (l.take (signLen l)) := by
  cases h2 : two l
  · cases l with
    | nil => rfl
    | cons b r =>
      rw [sign_one b r h2]
      unfold signLen
      rw [h2]
      by_cases hb : b ∈ ones <;> simp [hb]
  · rw [sign_two l h2]
    unfold signLen
    simp [h2]

/-- A token at the head of a text, or an error: 2 a byte or a number that is none, 9 one that is too great. -/
inductive Lex where
  | err (e : Nat)
  | tok (k : Nat) (t : List UInt8)

def word (upper : Bool) (t : List UInt8) : Lex :=
  if 24 < t.length then .err 9 else if upper then .tok 2 t else if t ∈ kws then .tok 4 t else .tok 1 t
def number (b : UInt8) (t : List UInt8) : Lex :=
  if 1 < t.length ∧ b.toNat = 48 then .err 2 else if 1000000 < digits 0 t then .err 9 else .tok 3 t
def sign : Option (List UInt8) → Lex
  | none => .err 2
  | some s => .tok 5 s

def lex : List UInt8 → Lex
  | [] => .err 2
  | b :: r => if lowB b = true then word false ((b :: r).takeWhile nameB) else if uppB b = true then word true ((b :: r).takeWhile nameB)
      else if digB b = true then number b ((b :: r).takeWhile digB) else sign (signOf (b :: r))

theorem nameB_of_low {b : UInt8} (h : lowB b = true) : nameB b = true := by simp [nameB, h]
theorem nameB_of_upp {b : UInt8} (h : uppB b = true) : nameB b = true := by simp [nameB, h]

theorem signOf_some {l s : List UInt8} (h : signOf l = some s) : s ∈ signs ∧ s <+: l := by
  unfold signOf at h
  refine ⟨List.mem_of_find?_eq_some h, ?_⟩
  have := List.find?_some h
  simpa using this
theorem signs_pos {s : List UInt8} (h : s ∈ signs) : 0 < s.length ∧ s.length ≤ 2 := by
  have : ∀ s ∈ signs, 0 < s.length ∧ s.length ≤ 2 := by decide
  exact this s h

theorem word_tok {u : Bool} {t : List UInt8} {k : Nat} {s : List UInt8} (h : word u t = .tok k s) : s = t := by
  unfold word at h
  repeat' split at h
  all_goals first | cases h; done | (injection h with _ h; exact h.symm)
theorem number_tok {b : UInt8} {t : List UInt8} {k : Nat} {s : List UInt8} (h : number b t = .tok k s) : s = t := by
  unfold number at h
  repeat' split at h
  all_goals first | cases h; done | (injection h with _ h; exact h.symm)
theorem sign_tok {o : Option (List UInt8)} {k : Nat} {s : List UInt8} (h : sign o = .tok k s) : o = some s ∧ k = 5 := by
  cases o with
  | none => cases h
  | some x => injection h with h1 h2; subst h1; subst h2; exact ⟨rfl, rfl⟩

theorem lex_prefix {l t : List UInt8} {k : Nat} (h : lex l = .tok k t) : t <+: l ∧ 0 < t.length := by
  cases l with
  | nil => cases h
  | cons b r =>
    rw [lex] at h
    split at h
    · rename_i hb
      rw [word_tok h]
      exact ⟨List.takeWhile_prefix _, by simp [nameB_of_low hb]⟩
    · split at h
      · rename_i hb
        rw [word_tok h]
        exact ⟨List.takeWhile_prefix _, by simp [nameB_of_upp hb]⟩
      · split at h
        · rename_i hb
          rw [number_tok h]
          exact ⟨List.takeWhile_prefix _, by simp [hb]⟩
        · obtain ⟨h1, h2⟩ := signOf_some (sign_tok h).1
          exact ⟨h2, (signs_pos h1).1⟩

structure T where
  kind : Nat
  text : List UInt8
  pos : Nat

inductive Res where
  | ok (l : List T)
  | err (p e : Nat)

/-- The tokens of what is left of a text of n bytes, behind those that were found. -/
def run (n : Nat) (l : List UInt8) (acc : List T) : Res :=
  match _h : skip false l with
  | [] => .ok (acc ++ [⟨6, [], n⟩])
  | b :: r => match _h2 : lex (b :: r) with
    | .err e => .err (n - (b :: r).length) e
    | .tok k t => run n ((b :: r).drop t.length) (acc ++ [⟨k, t, n - (b :: r).length⟩])
termination_by l.length
decreasing_by
  have h1 := skip_len l false
  rw [_h] at h1
  have h2 := (lex_prefix _h2).2
  simp only [List.length_drop, List.length_cons] at *
  omega

theorem run_nil {n : Nat} {l : List UInt8} {acc : List T} (h : skip false l = []) : run n l acc = .ok (acc ++ [⟨6, [], n⟩]) := by
  rw [run]
  split
  · rfl
  · rename_i h2; rw [h] at h2; cases h2
theorem run_err {n : Nat} {l m : List UInt8} {acc : List T} {e : Nat} (h : skip false l = m) (hm : m ≠ []) (h2 : lex m = .err e) : run n l acc = .err (n - m.length) e := by
  rw [run]
  split
  · rename_i h3; rw [h] at h3; exact absurd h3 hm
  · rename_i b r h3
    obtain rfl : m = b :: r := by rw [← h, h3]
    split
    · rename_i h4; rw [h2] at h4; injection h4 with h4; rw [h4]
    · rename_i h4; rw [h2] at h4; cases h4
theorem run_tok {n : Nat} {l m : List UInt8} {acc : List T} {k : Nat} {t : List UInt8} (h : skip false l = m) (hm : m ≠ []) (h2 : lex m = .tok k t) : run n l acc = run n (m.drop t.length) (acc ++ [⟨k, t, n - m.length⟩]) := by
  rw [run]
  split
  · rename_i h3; rw [h] at h3; exact absurd h3 hm
  · rename_i b r h3
    obtain rfl : m = b :: r := by rw [← h, h3]
    split
    · rename_i h4; rw [h2] at h4; cases h4
    · rename_i h4; rw [h2] at h4; injection h4 with h4 h5; rw [h4, h5]
theorem run_skip {n : Nat} {l m : List UInt8} {acc : List T} (h : skip false l = skip false m) : run n l acc = run n m acc := by
  cases hm : skip false m with
  | nil => rw [run_nil (by rw [h, hm]), run_nil hm]
  | cons b r =>
    rw [hm] at h
    cases hx : lex (b :: r) with
    | err e => rw [run_err h (by simp) hx, run_err hm (by simp) hx]
    | tok k t => rw [run_tok h (by simp) hx, run_tok hm (by simp) hx]

def split (l : List UInt8) : Res := if 16384 < l.length then .err 0 9 else run l.length l []

end Tok
end Go.Proofs.YtdlcmnfjhnfjcaaDoor
