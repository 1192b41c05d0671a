/-
  The calls of a law over api.Rat, by what their operands hold. Sizes: a number of at most k limbs above and below.
-/
import Derived.Test.YtdpiclmjdcjajaaFlow2
namespace Go.Proofs.Ytdpiclmjdcjajaa
open Go.RowKit Num

theorem sz_mk {z : Int} {D k : Nat} (hz : z.natAbs < pw k) (hD : D < pw k) (hk : 1 ≤ k) : Sz (mkRat z D) k := by
  have e : mkRat z D = rat (decide (z < 0)) z.natAbs D := by
    unfold rat
    congr 1
    by_cases h : z < 0
    · simp [h]; omega
    · simp [h]; omega
  rw [e]
  exact sz_rat hz hD hk

theorem sz_pos {q : Rat} {k : Nat} (h : Sz q k) : 1 ≤ k := by
  have h1 := q.den_pos
  have h2 := h.2
  rcases k with _ | k
  · rw [pw_zero] at h2; omega
  · omega

theorem sz_add {p q : Rat} {a b : Nat} (hp : Sz p a) (hq : Sz q b) : Sz (p + q) (a + b + 1) := by
  rw [← Rat.mkRat_self p, ← Rat.mkRat_self q, Rat.mkRat_add_mkRat _ _ p.den_nz q.den_nz]
  have h1 : p.num.natAbs * q.den < pw a * pw b := Nat.mul_lt_mul_of_lt_of_lt hp.1 hq.2
  have h2 : q.num.natAbs * p.den < pw b * pw a := Nat.mul_lt_mul_of_lt_of_lt hq.1 hp.2
  have h3 : p.den * q.den < pw a * pw b := Nat.mul_lt_mul_of_lt_of_lt hp.2 hq.2
  rw [Nat.mul_comm (pw b)] at h2
  rw [← pw_add] at h1 h2 h3
  have hs := pw_succ (a + b)
  refine sz_mk ?_ (by omega) (by omega)
  have h4 : (p.num * (q.den : Int) + q.num * (p.den : Int)).natAbs ≤ (p.num * (q.den : Int)).natAbs + (q.num * (p.den : Int)).natAbs := Int.natAbs_add_le _ _
  rw [Int.natAbs_mul, Int.natAbs_mul, Int.natAbs_natCast, Int.natAbs_natCast] at h4
  omega

theorem sz_mul {p q : Rat} {a b : Nat} (hp : Sz p a) (hq : Sz q b) : Sz (p * q) (a + b + 1) := by
  rw [← Rat.mkRat_self p, ← Rat.mkRat_self q, Rat.mkRat_mul_mkRat]
  have h1 : p.num.natAbs * q.num.natAbs < pw a * pw b := Nat.mul_lt_mul_of_lt_of_lt hp.1 hq.1
  have h3 : p.den * q.den < pw a * pw b := Nat.mul_lt_mul_of_lt_of_lt hp.2 hq.2
  rw [← pw_add] at h1 h3
  have hs := pw_succ (a + b)
  refine sz_mk ?_ (by omega) (by omega)
  rw [Int.natAbs_mul]
  omega

theorem sz_neg {q : Rat} {b : Nat} (hq : Sz q b) : Sz (-q) b := ⟨by rw [Rat.neg_num, Int.natAbs_neg]; exact hq.1, by rw [Rat.neg_den]; exact hq.2⟩

theorem sz_sub {p q : Rat} {a b : Nat} (hp : Sz p a) (hq : Sz q b) : Sz (p - q) (a + b + 1) := by
  rw [Rat.sub_eq_add_neg]
  exact sz_add hp (sz_neg hq)

theorem sz_inv {q : Rat} {b : Nat} (hq : Sz q b) : Sz q⁻¹ b := by
  have h := rat_self q
  rw [← h, ← rat_inv]
  exact sz_rat hq.2 hq.1 (sz_pos hq)

theorem sz_div {p q : Rat} {a b : Nat} (hp : Sz p a) (hq : Sz q b) : Sz (p / q) (a + b + 1) := by
  rw [Rat.div_def]
  exact sz_mul hp (sz_inv hq)

theorem RatV.sz {w : World} {neg : Bool} {an ad : Option Addr} {n cn m cd k : Nat} {q : Rat} (h : RatV w neg an n cn ad m cd k q) : Sz q (k + 1) := by
  obtain ⟨l1, l2, e1, e2, ⟨_, _, _, _, _, h1, _⟩, ⟨_, _, _, _, _, h2, _⟩, k1, k2, rfl⟩ := h
  exact sz_rat (val_lt_succ h1 (by omega)) (val_lt_succ h2 (by omega)) (by omega)

theorem RatV.le {w : World} {neg : Bool} {an ad : Option Addr} {n cn m cd k k' : Nat} {q : Rat} (h : RatV w neg an n cn ad m cd k q) (hn : n ≤ k') (hm : m ≤ k') : RatV w neg an n cn ad m cd k' q := by
  obtain ⟨l1, l2, e1, e2, h1, h2, k1, k2, e⟩ := h
  exact ⟨l1, l2, e1, e2, h1, h2, hn, hm, e⟩

/-- Add, Sub, Mul, Cmp by whatever values. -/
theorem add_a {w : World} {x y : Value} {k : Nat} {p q : Rat} (hx : RatA w x k p) (hy : RatA w y k q) (hk : k ≤ 20000) : Calls Try.prog 70 #[x, y] w (RatP (p + q) w) := by
  obtain ⟨_, _, _, _, _, _, _, rfl, h1⟩ := hx.v
  obtain ⟨_, _, _, _, _, _, _, rfl, h2⟩ := hy.v
  exact add_rat _ _ _ _ _ _ _ _ _ _ _ _ _ _ k p q w h1 h2 hk
theorem sub_a {w : World} {x y : Value} {k : Nat} {p q : Rat} (hx : RatA w x k p) (hy : RatA w y k q) (hk : k ≤ 20000) : Calls Try.prog 85 #[x, y] w (RatP (p - q) w) := by
  obtain ⟨_, _, _, _, _, _, _, rfl, h1⟩ := hx.v
  obtain ⟨_, _, _, _, _, _, _, rfl, h2⟩ := hy.v
  exact sub_any _ _ _ _ _ _ _ _ _ _ _ _ _ _ k p q w h1 h2 hk
theorem mul_a {w : World} {x y : Value} {k : Nat} {p q : Rat} (hx : RatA w x k p) (hy : RatA w y k q) (hk : k ≤ 20000) : Calls Try.prog 73 #[x, y] w (RatP (p * q) w) := by
  obtain ⟨_, _, _, _, _, _, _, rfl, h1⟩ := hx.v
  obtain ⟨_, _, _, _, _, _, _, rfl, h2⟩ := hy.v
  exact mul_any _ _ _ _ _ _ _ _ _ _ _ _ _ _ k p q w h1 h2 hk
theorem div_a {w : World} {x y : Value} {k : Nat} {p q : Rat} (hx : RatA w x k p) (hy : RatA w y k q) (hk : k ≤ 20000) : Calls Try.prog 116 #[x, y] w (QuoP p q w) := by
  obtain ⟨_, _, _, _, _, _, _, rfl, h1⟩ := hx.v
  obtain ⟨_, _, _, _, _, _, _, rfl, h2⟩ := hy.v
  exact div_any _ _ _ _ _ _ _ _ _ _ _ _ _ _ k p q w h1 h2 hk
section
variable {κ : Tmp → Kd} {G : Nat → Option Tmp} {d t u c : Tmp} {ty : TypeId} {pos : String} {es : Array Edge} {g : Option (Nat × Bool)} {k1 k2 : Nat} {p q : Rat}

theorem fl_add (hg : GuardYes (Fk κ) G g) (ht : (κ t).isRat k1 p) (hu : (κ u).isRat k2 q) (hd : κ d = .ratC (k1 + k2 + 1) (p + q)) (hk : k1 + k2 ≤ 20000) :
    FlowStep Try.prog (Fk κ) G ⟨some d, .call ⟨.value (.func 70), #[.tmp t, .tmp u], #[24, 24]⟩, ty, pos, es, g⟩ :=
  fl_call2 (fun a w => c2_35 a _ _ _ _ _ _ _ w) hg fun w x y hx hy => (add_a (ht.a hx (Nat.le_add_right k1 k2)) (hu.a hy (Nat.le_add_left k2 k1)) hk).mono fun e w' ⟨v, he, hv, hb⟩ => ⟨v, he, by rw [hd]; exact ⟨hv, sz_add (ht.sz hx) (hu.sz hy)⟩, hb⟩
theorem fl_sub (hg : GuardYes (Fk κ) G g) (ht : (κ t).isRat k1 p) (hu : (κ u).isRat k2 q) (hd : κ d = .ratC (k1 + k2 + 1) (p - q)) (hk : k1 + k2 ≤ 20000) :
    FlowStep Try.prog (Fk κ) G ⟨some d, .call ⟨.value (.func 85), #[.tmp t, .tmp u], #[24, 24]⟩, ty, pos, es, g⟩ :=
  fl_call2 (fun a w => c2_37 a _ _ _ _ _ _ _ w) hg fun w x y hx hy => (sub_a (ht.a hx (Nat.le_add_right k1 k2)) (hu.a hy (Nat.le_add_left k2 k1)) hk).mono fun e w' ⟨v, he, hv, hb⟩ => ⟨v, he, by rw [hd]; exact ⟨hv, sz_sub (ht.sz hx) (hu.sz hy)⟩, hb⟩
theorem fl_mul (hg : GuardYes (Fk κ) G g) (ht : (κ t).isRat k1 p) (hu : (κ u).isRat k2 q) (hd : κ d = .ratC (k1 + k2 + 1) (p * q)) (hk : k1 + k2 ≤ 20000) :
    FlowStep Try.prog (Fk κ) G ⟨some d, .call ⟨.value (.func 73), #[.tmp t, .tmp u], #[24, 24]⟩, ty, pos, es, g⟩ :=
  fl_call2 (fun a w => c2_41 a _ _ _ _ _ _ _ w) hg fun w x y hx hy => (mul_a (ht.a hx (Nat.le_add_right k1 k2)) (hu.a hy (Nat.le_add_left k2 k1)) hk).mono fun e w' ⟨v, he, hv, hb⟩ => ⟨v, he, by rw [hd]; exact ⟨hv, sz_mul (ht.sz hx) (hu.sz hy)⟩, hb⟩
theorem fl_same {b : Bool} (hg : GuardYes (Fk κ) G g) (ht : κ t = .ratC k1 p) (hu : κ u = .ratC k2 q) (hd : κ d = .val (.bool b)) (hb : b = true ↔ p = q) (hk : k1 ≤ 50000) :
    FlowStep Try.prog (Fk κ) G ⟨some d, .call ⟨.value (.func 19), #[.tmp t, .tmp u], #[24, 24]⟩, ty, pos, es, g⟩ :=
  fl_call2 (fun a w => c2_18 a _ _ _ _ _ _ _ w) hg fun w x y hx hy => by
    rw [ht] at hx
    rw [hu] at hy
    refine (sameRat_any x y p q k1 w hx.1 hy.1 hx.2 hk).mono fun e w' ⟨b', he, hv, hbl⟩ => ⟨_, he, ?_, hbl⟩
    rw [hd]
    have : b' = b := by
      rw [Bool.eq_iff_iff, hv, hb]
    rw [this]
    rfl
theorem fl_canon (hg : GuardYes (Fk κ) G g) (ht : (κ t).isRat k1 p) (hd : κ d = .ratC k1 p) (hk : k1 ≤ 50000) :
    FlowStep Try.prog (Fk κ) G ⟨some d, .call ⟨.value (.func 64), #[.tmp t], #[24]⟩, ty, pos, es, g⟩ :=
  fl_call1 (fun a w => c1_23 a _ _ _ _ _ _ w) hg fun w x hx => (Canonical_any x k1 p w (ht.a hx (Nat.le_refl _)) hk).mono fun e w' ⟨v, he, hv, hb⟩ => ⟨v, he, by rw [hd]; exact ⟨hv, ht.sz hx⟩, hb⟩
theorem fl_sign {n : Int} (hg : GuardYes (Fk κ) G g) (ht : (κ t).isRat k1 p) (hd : κ d = .val (.int .i64 n)) (hn : sgn p = n) :
    FlowStep Try.prog (Fk κ) G ⟨some d, .call ⟨.value (.func 106), #[.tmp t], #[24]⟩, ty, pos, es, g⟩ :=
  fl_call1 (fun a w => c1_27 a _ _ _ _ _ _ w) hg fun w x hx => (sign_any x k1 p w (ht.a hx (Nat.le_refl _))).mono fun e w' ⟨he, hb⟩ => ⟨_, he, by rw [hd, hn]; rfl, hb⟩
end

end Go.Proofs.Ytdpiclmjdcjajaa
