/-
  The order of two numbers by cross products, and the calls that reckon it.
-/
import Derived.Test.YtdpiclmjdcjajaaTwo
namespace Go.Proofs.Ytdpiclmjdcjajaa
open Go.RowKit Num

/-- The order of two numbers. -/
def cmpQ (p q : Rat) : Int := if p < q then -1 else if q < p then 1 else 0

theorem mk_facts (i : Int) (d : Nat) (hd : d ≠ 0) : ∃ m : Nat, m ≠ 0 ∧ i = (mkRat i d).num * m ∧ d = (mkRat i d).den * m :=
  Rat.mkRat_num_den hd (n' := (mkRat i d).num) (d' := (mkRat i d).den) (z' := (mkRat i d).den_nz) (c := (mkRat i d).reduced) rfl

theorem lt_cross (i j : Int) {d e : Nat} (hd : 0 < d) (he : 0 < e) : mkRat i d < mkRat j e ↔ i * e < j * d := by
  obtain ⟨m, hm, h1, h2⟩ := mk_facts i d (by omega)
  obtain ⟨M, hM, h3, h4⟩ := mk_facts j e (by omega)
  rw [Rat.lt_iff]
  generalize mkRat i d = p at *
  generalize mkRat j e = q at *
  have e1 : i * (e : Int) = p.num * q.den * (m * M) := by
    rw [h1, h4, Int.natCast_mul]; simp only [Int.mul_assoc, Int.mul_left_comm, Int.mul_comm]
  have e2 : j * (d : Int) = q.num * p.den * (m * M) := by
    rw [h3, h2, Int.natCast_mul]; simp only [Int.mul_assoc, Int.mul_left_comm, Int.mul_comm]
  rw [e1, e2]
  have hp : (0 : Int) < (m : Int) * M := Int.mul_pos (by omega) (by omega)
  exact (Int.mul_lt_mul_right hp).symm

theorem cmpQ_cross (i j : Int) {d e : Nat} (hd : 0 < d) (he : 0 < e) : cmpQ (mkRat i d) (mkRat j e) = cmpI (i * e) (j * d) := by
  unfold cmpQ cmpI
  simp only [lt_cross i j hd he, lt_cross j i he hd]

theorem cmpQ_self (p : Rat) : cmpQ p p = 0 := by
  unfold cmpQ
  rw [if_neg (Rat.lt_irrefl), if_neg (Rat.lt_irrefl)]

theorem cmpI_neg (a b : Int) : cmpI (-a) (-b) = - cmpI a b := by
  unfold cmpI
  split <;> split <;> (try split) <;> (try split) <;> omega

theorem cmp_cross {p q : Rat} {ng ng' : Bool} {n d n' e : Nat} (hd : 0 < d) (he : 0 < e) (hp : rat ng n d = p) (hq : rat ng' n' e = q) (hs : sgn p = sgn q) :
    sgn p * cmpI ((n * e : Nat)) ((n' * d : Nat)) = cmpQ p q := by
  have s1 := sgn_rat ng n d
  have s2 := sgn_rat ng' n' e
  rw [hp] at s1
  rw [hq] at s2
  have hd' : d ≠ 0 := by omega
  have he' : e ≠ 0 := by omega
  rw [← hs] at s2
  by_cases hn : n = 0
  · rw [if_pos (.inl hn)] at s1
    rw [s1] at s2
    by_cases hn' : n' = 0
    · subst hn hn'
      rw [← hp, ← hq, rat_zero_num, rat_zero_num, cmpQ_self]
      simp [sgn]
    · rw [if_neg (by omega)] at s2
      cases ng' <;> simp at s2
  · rw [if_neg (by omega)] at s1
    by_cases hn' : n' = 0
    · rw [if_pos (.inl hn')] at s2
      rw [s2] at s1
      cases ng <;> simp at s1
    · rw [if_neg (by omega)] at s2
      rw [s1]
      rw [s1] at s2
      rw [← hp, ← hq]
      unfold rat
      rw [cmpQ_cross _ _ hd he]
      cases ng <;> cases ng' <;> simp at s2
      · simp
      · simp only [if_true]
        rw [Int.neg_mul (n : Int) e, Int.neg_mul (n' : Int) d, cmpI_neg]
        simp

theorem sgn_cmp {p q : Rat} (h : sgn p ≠ sgn q) : cmpI (sgn p) (sgn q) = cmpQ p q := by
  have hp := Rat.mkRat_self p
  have hq := Rat.mkRat_self q
  have hdp : 0 < p.den := Nat.pos_of_ne_zero p.den_nz
  have hdq : 0 < q.den := Nat.pos_of_ne_zero q.den_nz
  have hc := cmpQ_cross p.num q.num hdp hdq
  rw [hp, hq] at hc
  rw [hc]
  have hdp' : (0 : Int) < p.den := by omega
  have hdq' : (0 : Int) < q.den := by omega
  have sg (x : Int) (y : Int) (hy : 0 < y) : (x = 0 → x * y = 0) ∧ (x < 0 → x * y < 0) ∧ (0 < x → 0 < x * y) :=
    ⟨fun h => by rw [h, Int.zero_mul], fun h => Int.mul_neg_of_neg_of_pos h hy, fun h => Int.mul_pos h hy⟩
  obtain ⟨a1, a2, a3⟩ := sg p.num q.den hdq'
  obtain ⟨b1, b2, b3⟩ := sg q.num p.den hdp'
  generalize p.num * (q.den : Int) = X at *
  generalize q.num * (p.den : Int) = Y at *
  unfold sgn at h ⊢
  unfold cmpI
  by_cases c1 : p.num = 0 <;> by_cases c2 : q.num = 0 <;> by_cases c3 : p.num < 0 <;> by_cases c4 : q.num < 0 <;> simp only [c1, c2, c3, c4, if_true, if_false] at h ⊢ <;> first | omega | (split <;> (try split) <;> omega) | skip

theorem Nt.mul {w : World} {u v : Value} {x y k : Nat} (hu : Nt w u x) (hv : Nt w v y) (hx : x < pw k) (hy : y < pw k) (hk : k ≤ 1000000) : Calls Try.prog 111 #[u, v] w (NtP (x * y) w) := by
  obtain ⟨a, a1, a2, rfl⟩ := hu
  obtain ⟨b, b1, b2, rfl⟩ := hv
  have l1 := cano_len a2 hx
  have l2 := cano_len b2 hy
  exact multiply_any u v a b w a1 b1 a2.1 b2.1 (by omega) (by omega)

theorem Nt.cmp {w : World} {u v : Value} {x y : Nat} (hu : Nt w u x) (hv : Nt w v y) : Calls Try.prog 113 #[u, v] w (fun e w' => e = .returned (.int .i64 (cmpI x y)) ∧ Below w.heap.size w w') := by
  obtain ⟨a, a1, a2, rfl⟩ := hu
  obtain ⟨b, b1, b2, rfl⟩ := hv
  exact (compare_any u v a b w a1 b1 a2 b2).mono fun _ _ h => h.below

end Go.Proofs.Ytdpiclmjdcjajaa
