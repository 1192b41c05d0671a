/-
  Rational numbers in memory: what a value of api.Rat denotes, and its canonical form. Plain mathematics of the numerator and the denominator. No conditions but those of each lemma.
-/
import Derived.Test.YtdpiclmjdcjajaaN15
namespace Go.Proofs.Ytdpiclmjdcjajaa
open Go.RowKit Num

/-- The number of a sign, a numerator and a denominator; 0 where the denominator is 0. -/
def rat (neg : Bool) (n d : Nat) : Rat := mkRat (if neg then -(n : Int) else n) d

theorem rat_zero_num (neg : Bool) (d : Nat) : rat neg 0 d = 0 := by unfold rat; cases neg <;> simp
theorem rat_zero_den (neg : Bool) (n : Nat) : rat neg n 0 = 0 := by unfold rat; simp

theorem rat_num_natAbs (neg : Bool) (n d : Nat) (hd : 0 < d) : (rat neg n d).num.natAbs = n / Nat.gcd n d := by
  unfold rat
  rw [Rat.num_mkRat, if_neg (by omega)]
  have hg : ((d.gcd n : Nat) : Int) ∣ (n : Int) := Int.ofNat_dvd.2 (Nat.gcd_dvd_right _ _)
  cases neg
  · simp [Nat.gcd_comm]
    rw [Int.natAbs_ediv_of_dvd (by rw [Nat.gcd_comm]; exact hg)]; simp
  · simp only [if_true, Int.natAbs_neg, Int.natAbs_natCast]
    rw [Int.natAbs_ediv_of_dvd ((Int.dvd_neg).2 hg)]; simp [Nat.gcd_comm]

theorem rat_den (neg : Bool) (n d : Nat) (hd : 0 < d) : (rat neg n d).den = d / Nat.gcd n d := by
  unfold rat
  rw [Rat.den_mkRat, if_neg (by omega)]
  cases neg <;> simp [Nat.gcd_comm]

theorem div_gcd_pos {n d : Nat} (hn : 0 < n) : 0 < n / Nat.gcd n d := Nat.div_pos (Nat.le_of_dvd hn (Nat.gcd_dvd_left _ _)) (Nat.gcd_pos_of_pos_left _ hn)

theorem rat_neg_iff (neg : Bool) (n d : Nat) (hn : 0 < n) (hd : 0 < d) : (decide ((rat neg n d).num < 0)) = neg := by
  have hg : 0 < d.gcd n := Nat.gcd_pos_of_pos_right _ hn
  unfold rat
  rw [Rat.num_mkRat, if_neg (by omega)]
  cases neg
  · have : 0 ≤ ((n : Int) / (d.gcd n : Int)) := Int.ediv_nonneg (by omega) (by omega)
    simp; omega
  · have h2 : -(n : Int) / ((d.gcd n : Nat) : Int) < 0 := Int.ediv_neg_of_neg_of_pos (by omega) (by omega)
    simpa using h2

/-- A canonical number in memory. -/
def RatC (w : World) (v : Value) (q : Rat) : Prop :=
  ∃ an ln cn ad ld cd, v = .agg #[.bool (decide (q.num < 0)), .slice an ln cn, .slice ad ld cd] ∧ Nt w (.slice an ln cn) q.num.natAbs ∧ Nt w (.slice ad ld cd) q.den

theorem Nt.shape {w : World} {v : Value} {x : Nat} (h : Nt w v x) : ∃ a n c, v = .slice a n c := by
  obtain ⟨l, ⟨a, cap, e, _⟩, _⟩ := h
  exact ⟨_, _, _, e⟩

/-- A number in memory, of at most k limbs each. -/
def RatA (w : World) (v : Value) (k : Nat) (q : Rat) : Prop :=
  ∃ neg an cn ad cd l1 l2, v = .agg #[.bool neg, .slice an l1.length cn, .slice ad l2.length cd] ∧ Lim w (.slice an l1.length cn) l1 ∧ Lim w (.slice ad l2.length cd) l2 ∧ l1.length ≤ k ∧ l2.length ≤ k ∧ q = rat neg (val l1) (val l2)

/-- The numerator and the denominator have at most k limbs. -/
def Sz (q : Rat) (k : Nat) : Prop := q.num.natAbs < pw k ∧ q.den < pw k

theorem RatC.below {w w' : World} {v : Value} {q : Rat} (h : RatC w v q) (hb : Below w.heap.size w w') : RatC w' v q := by
  obtain ⟨an, ln, cn, ad, ld, cd, e, h1, h2⟩ := h
  exact ⟨an, ln, cn, ad, ld, cd, e, h1.below hb, h2.below hb⟩
theorem RatA.below {w w' : World} {v : Value} {k : Nat} {q : Rat} (h : RatA w v k q) (hb : Below w.heap.size w w') : RatA w' v k q := by
  obtain ⟨neg, an, cn, ad, cd, l1, l2, e, h1, h2, r⟩ := h
  exact ⟨neg, an, cn, ad, cd, l1, l2, e, h1.below hb, h2.below hb, r⟩

theorem rat_self (q : Rat) : rat (decide (q.num < 0)) q.num.natAbs q.den = q := by
  unfold rat
  have e : (if decide (q.num < 0) = true then -(q.num.natAbs : Int) else (q.num.natAbs : Int)) = q.num := by
    by_cases h : q.num < 0
    · simp [h]; omega
    · simp [h]; omega
  rw [e, Rat.mkRat_self]

theorem RatC.a {w : World} {v : Value} {q : Rat} {k : Nat} (h : RatC w v q) (hs : Sz q k) : RatA w v k q := by
  obtain ⟨an, ln, cn, ad, ld, cd, e, ⟨l1, h1, c1, v1⟩, ⟨l2, h2, c2, v2⟩⟩ := h
  have h1' := h1
  have h2' := h2
  obtain ⟨an', cn', e1, _⟩ := h1'
  obtain ⟨ad', cd', e2, _⟩ := h2'
  cases e1
  cases e2
  refine ⟨_, an, cn, ad, cd, l1, l2, e, h1, h2, cano_len c1 (by rw [v1]; exact hs.1), cano_len c2 (by rw [v2]; exact hs.2), ?_⟩
  rw [v1, v2, rat_self]

theorem sz_rat {neg : Bool} {n d k : Nat} (hn : n < pw k) (hd : d < pw k) (hk : 1 ≤ k) : Sz (rat neg n d) k := by
  have h1 : 1 < pw k := by have := pw_le hk; have e : pw 1 = 1000000000 := rfl; omega
  rcases Nat.eq_zero_or_pos d with h | h
  · rw [h, rat_zero_den]; exact ⟨by simpa using Nat.lt_of_lt_of_le Nat.zero_lt_one (Nat.le_of_lt h1), by simpa using h1⟩
  · exact ⟨by rw [rat_num_natAbs _ _ _ h]; exact Nat.lt_of_le_of_lt (Nat.div_le_self _ _) hn, by rw [rat_den _ _ _ h]; exact Nat.lt_of_le_of_lt (Nat.div_le_self _ _) hd⟩

/-- What makes a canonical number. -/
theorem ratC_mk {w : World} {neg : Bool} {n d : Nat} {nv dv : Value} (hn : 0 < n) (hd : 0 < d) (h1 : Nt w nv (n / Nat.gcd n d)) (h2 : Nt w dv (d / Nat.gcd n d)) : RatC w (.agg #[.bool neg, nv, dv]) (rat neg n d) := by
  obtain ⟨an, ln, cn, rfl⟩ := h1.shape
  obtain ⟨ad, ld, cd, rfl⟩ := h2.shape
  exact ⟨_, _, _, _, _, _, by rw [rat_neg_iff neg n d hn hd], by rw [rat_num_natAbs neg n d hd]; exact h1, by rw [rat_den neg n d hd]; exact h2⟩

/-- A block of cells that the call itself made: a struct. -/
def BoxV (w : World) (B g t : Nat) (xs : List Value) : Prop := w.ownsRow B t xs.length (.slice (some ⟨g, 0, none⟩) 1 1) 1 xs

theorem BoxV.cell {w : World} {B g t : Nat} {xs : List Value} (h : BoxV w B g t xs) (j : Nat) (hj : j < xs.length) : w.cell? ⟨g, j, none⟩ = xs[j]? := World.ownsRow.cellAt h j (by omega)
theorem BoxV.frozen {w : World} {B g t : Nat} {xs : List Value} (h : BoxV w B g t xs) (j : Nat) : w.frozen? ⟨g, j, none⟩ = false := World.ownsRow.frozenAt h j
theorem BoxV.kept {w w' : World} {B g t : Nat} {xs : List Value} {row : Option Nat} (h : BoxV w B g t xs) (hg : w.grownBy w' row) (hne : some g ≠ row) : BoxV w' B g t xs :=
  World.ownsRow.kept h hg (.inr (by simpa [Value.ownBlock] using hne))
theorem BoxV.below {w w' : World} {B g t : Nat} {xs : List Value} (h : BoxV w B g t xs) (hb : Below w.heap.size w w') : BoxV w' B g t xs :=
  h.kept (row := none) ⟨hb.os, hb.tape, hb.output, hb.size, fun k hk _ => hb.block k hk⟩ (by simp)
theorem BoxV.alloc {w : World} {B g t : Nat} {xs : List Value} (h : BoxV w B g t xs) (o : Obj) : BoxV (w.alloc o) B g t xs := World.ownsRow.alloc h o
theorem BoxV.new (w : World) (B t : Nat) (hB : B ≤ w.heap.size) (xs : List Value) : BoxV (w.alloc (.cells xs.toArray t)) B w.heap.size t xs := by
  have := World.ownsRow_lit (base := B) (e := t) (size := xs.length) w xs.toArray 1 hB (by unfold maxLen; omega) (by simp)
  unfold BoxV
  simpa using this
theorem BoxV.block {w : World} {B g t : Nat} {xs : List Value} (h : BoxV w B g t xs) : B ≤ g ∧ g < w.heap.size := World.ownsRow.lt h g rfl

/-- The three cells of an api.Rat that the call itself made, and what it takes to write them. -/
theorem BoxV.three {w : World} {B g t : Nat} {x y z : Value} (h : BoxV w B g t [x, y, z]) :
    (w.cell? ⟨g, 0, none⟩ = some x ∧ w.cell? ⟨g, 1, none⟩ = some y ∧ w.cell? ⟨g, 2, none⟩ = some z) ∧ (w.frozen? ⟨g, 0, none⟩ = false ∧ w.frozen? ⟨g, 1, none⟩ = false ∧ w.frozen? ⟨g, 2, none⟩ = false) :=
  ⟨⟨h.cell 0 (by simp), h.cell 1 (by simp), h.cell 2 (by simp)⟩, h.frozen 0, h.frozen 1, h.frozen 2⟩
theorem BoxV.two {w : World} {B g t : Nat} {x y : Value} (h : BoxV w B g t [x, y]) :
    (w.cell? ⟨g, 0, none⟩ = some x ∧ w.cell? ⟨g, 1, none⟩ = some y) ∧ (w.frozen? ⟨g, 0, none⟩ = false ∧ w.frozen? ⟨g, 1, none⟩ = false) :=
  ⟨⟨h.cell 0 (by simp), h.cell 1 (by simp)⟩, h.frozen 0, h.frozen 1⟩

theorem below_set3 {B : Nat} {a w : World} (h : Below B a w) {g : Nat} (hg : B ≤ g) (x y z : Value) : Below B a (((w.setCell ⟨g, 0, none⟩ x).setCell ⟨g, 1, none⟩ y).setCell ⟨g, 2, none⟩ z) :=
  ((h.setCell (p := ⟨g, 0, none⟩) hg x).setCell (p := ⟨g, 1, none⟩) hg y).setCell (p := ⟨g, 2, none⟩) hg z
theorem below_set2 {B : Nat} {a w : World} (h : Below B a w) {g : Nat} (hg : B ≤ g) (x y : Value) : Below B a ((w.setCell ⟨g, 0, none⟩ x).setCell ⟨g, 1, none⟩ y) :=
  (h.setCell (p := ⟨g, 0, none⟩) hg x).setCell (p := ⟨g, 1, none⟩) hg y

theorem grown_set3 (w : World) (g : Nat) (x y z : Value) : w.grownBy (((w.setCell ⟨g, 0, none⟩ x).setCell ⟨g, 1, none⟩ y).setCell ⟨g, 2, none⟩ z) (some g) :=
  grown_setCell (grown_setCell (grown_setCell (World.grownBy.refl _ _) _) _) _

/-- A slice whose cells, if it has any, do not lie in block g. -/
theorem Lim.other {w w' : World} {v : Value} {l : List Nat} {g t : Nat} {cs : Array Value} {fr : Nat × Nat} (h : Lim w v l) (hg : w.grownBy w' (some g)) (hb : w.heap[g]? = some (.cells cs t fr)) (hx : ∀ x ∈ cs.toList, ∀ n, x ≠ .int .u32 n) : Lim w' v l := by
  obtain ⟨a, cap, rfl, h1, h2, h3, h4⟩ := h
  refine ⟨a, cap, rfl, h1, h2, h3, fun i hi => ?_⟩
  obtain ⟨b, o, rfl, hc⟩ := h4 i hi
  refine ⟨b, o, rfl, hg.cell hc ?_⟩
  intro e
  obtain rfl : b = g := by simpa using e
  simp only [World.cell?, hb] at hc
  rcases Nat.lt_or_ge (o + i) cs.size with hlt | hge
  · have : cs[o + i]? = some cs[o + i] := Array.getElem?_eq_getElem hlt
    simp only [this] at hc
    exact hx _ (by simp) _ (Option.some.inj hc)
  · simp [Array.getElem?_eq_none hge] at hc

theorem BoxV.heap {w : World} {B g t : Nat} {xs : List Value} (h : BoxV w B g t xs) : ∃ cs : Array Value, w.heap[g]? = some (.cells cs t (0, 0)) ∧ cs.toList = xs := by
  rcases h.2 with ⟨e, _⟩ | ⟨g', cap, cur, e, hb, hg, hn, hm, hs, ht⟩
  · simp at e
  · simp only [Value.slice.injEq, Option.some.injEq, Addr.mk.injEq, and_true, true_and] at e
    obtain ⟨rfl, rfl⟩ := e
    refine ⟨cur, hg, ?_⟩
    rw [← ht]
    exact (List.take_of_length_le (by simp [hs])).symm

/-- No cell of these is a limb. -/
def NoLimb (xs : List Value) : Prop := ∀ x ∈ xs, ∀ n, x ≠ .int .u32 n

theorem Nt.other {w w' : World} {v : Value} {x B g t : Nat} {xs : List Value} (h : Nt w v x) (hb : BoxV w B g t xs) (hx : NoLimb xs) (hg : w.grownBy w' (some g)) : Nt w' v x := by
  obtain ⟨l, h1, h2, h3⟩ := h
  obtain ⟨cs, hc, he⟩ := hb.heap
  exact ⟨l, h1.other hg hc (by rw [he]; exact hx), h2, h3⟩

theorem Lim.otherBox {w w' : World} {v : Value} {l : List Nat} {B g t : Nat} {xs : List Value} (h : Lim w v l) (hb : BoxV w B g t xs) (hx : NoLimb xs) (hg : w.grownBy w' (some g)) : Lim w' v l := by
  obtain ⟨cs, hc, he⟩ := hb.heap
  exact h.other hg hc (by rw [he]; exact hx)

theorem RatC.other {w w' : World} {v : Value} {q : Rat} {B g t : Nat} {xs : List Value} (h : RatC w v q) (hb : BoxV w B g t xs) (hx : NoLimb xs) (hg : w.grownBy w' (some g)) : RatC w' v q := by
  obtain ⟨an, ln, cn, ad, ld, cd, e, h1, h2⟩ := h
  exact ⟨an, ln, cn, ad, ld, cd, e, h1.other hb hx hg, h2.other hb hx hg⟩

theorem noLimb_rat (b : Bool) (a a' : Option Addr) (n c n' c' : Nat) : NoLimb [.bool b, .slice a n c, .slice a' n' c'] := fun x hx k => by
  simp at hx
  rcases hx with rfl | rfl | rfl <;> simp

theorem BoxV.store3 {w : World} {B g t : Nat} {x y z : Value} (h : BoxV w B g t [x, y, z]) (x' y' z' : Value) :
    BoxV (((w.setCell ⟨g, 0, none⟩ x').setCell ⟨g, 1, none⟩ y').setCell ⟨g, 2, none⟩ z') B g t [x', y', z'] := by
  have h1 := (World.ownsRow.stored h 0 x').1
  have h2 := (World.ownsRow.stored h1 1 y').1
  have h3 := (World.ownsRow.stored h2 2 z').1
  exact h3
theorem BoxV.store2 {w : World} {B g t : Nat} {x y : Value} (h : BoxV w B g t [x, y]) (x' y' : Value) :
    BoxV ((w.setCell ⟨g, 0, none⟩ x').setCell ⟨g, 1, none⟩ y') B g t [x', y'] := by
  have h1 := (World.ownsRow.stored h 0 x').1
  have h2 := (World.ownsRow.stored h1 1 y').1
  exact h2

/-- What a region that calls keeps of a block of three. -/
theorem keep3 {W0 W : World} {B g t : Nat} {x y z : Value} (hb : BoxV W0 B g t [x, y, z]) (h : Below W0.heap.size W0 W) :
    W.cell? ⟨g, 0, none⟩ = some x ∧ W.cell? ⟨g, 1, none⟩ = some y ∧ W.cell? ⟨g, 2, none⟩ = some z ∧ W.frozen? ⟨g, 0, none⟩ = false ∧ W.frozen? ⟨g, 1, none⟩ = false ∧ W.frozen? ⟨g, 2, none⟩ = false ∧ Below W0.heap.size W0 W := by
  obtain ⟨⟨k0, k1, k2⟩, f0, f1, f2⟩ := (hb.below h).three
  exact ⟨k0, k1, k2, f0, f1, f2, h⟩

end Go.Proofs.Ytdpiclmjdcjajaa
