/-
  Comparisons of whole numbers in a region, and the order of rational numbers by -1, 0, 1.
-/
import Derived.Test.YtdpiclmjdcjajaaFlow5
namespace Go.Proofs.Ytdpiclmjdcjajaa
open Go.RowKit Num

section
variable {κ : Tmp → Kd} {G : Nat → Option Tmp} {d t u : Tmp} {ty : TypeId} {pos : String} {es : Array Edge} {g : Option (Nat × Bool)} {n m : Int} {b : Bool}
theorem fl_leq (hg : GuardYes (Fk κ) G g) (ht : κ t = .val (.int .i64 n)) (hd : κ d = .val (.bool b)) (hb : decide (n ≤ m) = b) : FlowStep Try.prog (Fk κ) G ⟨some d, .binOp .leq 3 (.tmp t) (.const (.int .i64 m)) 3, ty, pos, es, g⟩ :=
  fl_un hg (by simp [Op.operands]) ht hd fun a w h => by subst hb; go_simp
theorem fl_lss (hg : GuardYes (Fk κ) G g) (ht : κ t = .val (.int .i64 n)) (hd : κ d = .val (.bool b)) (hb : decide (n < m) = b) : FlowStep Try.prog (Fk κ) G ⟨some d, .binOp .lss 3 (.tmp t) (.const (.int .i64 m)) 3, ty, pos, es, g⟩ :=
  fl_un hg (by simp [Op.operands]) ht hd fun a w h => by subst hb; go_simp
theorem fl_geq (hg : GuardYes (Fk κ) G g) (ht : κ t = .val (.int .i64 n)) (hd : κ d = .val (.bool b)) (hb : decide (m ≤ n) = b) : FlowStep Try.prog (Fk κ) G ⟨some d, .binOp .geq 3 (.tmp t) (.const (.int .i64 m)) 3, ty, pos, es, g⟩ :=
  fl_un hg (by simp [Op.operands]) ht hd fun a w h => by subst hb; go_simp
theorem fl_gtr (hg : GuardYes (Fk κ) G g) (ht : κ t = .val (.int .i64 n)) (hd : κ d = .val (.bool b)) (hb : decide (m < n) = b) : FlowStep Try.prog (Fk κ) G ⟨some d, .binOp .gtr 3 (.tmp t) (.const (.int .i64 m)) 3, ty, pos, es, g⟩ :=
  fl_un hg (by simp [Op.operands]) ht hd fun a w h => by subst hb; go_simp
theorem fl_eql (hg : GuardYes (Fk κ) G g) (ht : κ t = .val (.int .i64 n)) (hd : κ d = .val (.bool b)) (hb : (n == m) = b) : FlowStep Try.prog (Fk κ) G ⟨some d, .binOp .eql 3 (.tmp t) (.const (.int .i64 m)) 3, ty, pos, es, g⟩ :=
  fl_un hg (by simp [Op.operands]) ht hd fun a w h => by subst hb; go_simp
theorem fl_neq (hg : GuardYes (Fk κ) G g) (ht : κ t = .val (.int .i64 n)) (hd : κ d = .val (.bool b)) (hb : (n != m) = b) : FlowStep Try.prog (Fk κ) G ⟨some d, .binOp .neq 3 (.tmp t) (.const (.int .i64 m)) 3, ty, pos, es, g⟩ :=
  fl_un hg (by simp [Op.operands]) ht hd fun a w h => by subst hb; go_simp
theorem fl_eql2 (hg : GuardYes (Fk κ) G g) (ht : κ t = .val (.int .i64 n)) (hu : κ u = .val (.int .i64 m)) (hd : κ d = .val (.bool b)) (hb : (n == m) = b) : FlowStep Try.prog (Fk κ) G ⟨some d, .binOp .eql 3 (.tmp t) (.tmp u) 3, ty, pos, es, g⟩ :=
  fl_bi hg (by simp [Op.operands]) (by simp [Op.operands]) ht hu hd fun a w h h' => by subst hb; go_simp
theorem fl_neq2 (hg : GuardYes (Fk κ) G g) (ht : κ t = .val (.int .i64 n)) (hu : κ u = .val (.int .i64 m)) (hd : κ d = .val (.bool b)) (hb : (n != m) = b) : FlowStep Try.prog (Fk κ) G ⟨some d, .binOp .neq 3 (.tmp t) (.tmp u) 3, ty, pos, es, g⟩ :=
  fl_bi hg (by simp [Op.operands]) (by simp [Op.operands]) ht hu hd fun a w h h' => by subst hb; go_simp
theorem fl_bneq2 {x y : Bool} (hg : GuardYes (Fk κ) G g) (ht : κ t = .val (.bool x)) (hu : κ u = .val (.bool y)) (hd : κ d = .val (.bool b)) (hb : (x != y) = b) : FlowStep Try.prog (Fk κ) G ⟨some d, .binOp .neq 4 (.tmp t) (.tmp u) 4, ty, pos, es, g⟩ :=
  fl_bi hg (by simp [Op.operands]) (by simp [Op.operands]) ht hu hd fun a w h h' => by subst hb; cases x <;> cases y <;> go_simp
theorem fl_beql2 {x y : Bool} (hg : GuardYes (Fk κ) G g) (ht : κ t = .val (.bool x)) (hu : κ u = .val (.bool y)) (hd : κ d = .val (.bool b)) (hb : (x == y) = b) : FlowStep Try.prog (Fk κ) G ⟨some d, .binOp .eql 4 (.tmp t) (.tmp u) 4, ty, pos, es, g⟩ :=
  fl_bi hg (by simp [Op.operands]) (by simp [Op.operands]) ht hu hd fun a w h h' => by subst hb; go_simp
theorem fl_minus (hg : GuardYes (Fk κ) G g) (ht : κ t = .val (.int .i64 n)) (hd : κ d = .val (.int .i64 m)) (hb : IntKind.i64.wrap (-n) = m) : FlowStep Try.prog (Fk κ) G ⟨some d, .unOp .neg 3 (.tmp t), ty, pos, es, g⟩ :=
  fl_un hg (by simp [Op.operands]) ht hd fun a w h => by subst hb; go_simp
end

/-! The order. -/
theorem cmp_cases (p q : Rat) : (p < q ∧ cmpQ p q = -1) ∨ (p = q ∧ cmpQ p q = 0) ∨ (q < p ∧ cmpQ p q = 1) := by
  unfold cmpQ
  by_cases h : p < q
  · exact .inl ⟨h, if_pos h⟩
  · by_cases h' : q < p
    · exact .inr (.inr ⟨h', by rw [if_neg h, if_pos h']⟩)
    · exact .inr (.inl ⟨Rat.le_antisymm (Rat.not_lt.1 h') (Rat.not_lt.1 h), by rw [if_neg h, if_neg h']⟩)
theorem lt_asymm' {p q : Rat} (h : p < q) : ¬ q < p := Rat.not_lt.2 (Rat.le_of_lt h)
theorem cmp_le {p q : Rat} : cmpQ p q ≤ 0 ↔ p ≤ q := by
  rcases cmp_cases p q with ⟨h, e⟩ | ⟨h, e⟩ | ⟨h, e⟩ <;> rw [e]
  · exact ⟨fun _ => Rat.le_of_lt h, fun _ => by omega⟩
  · exact ⟨fun _ => h ▸ Rat.le_refl, fun _ => by omega⟩
  · exact ⟨fun h' => by omega, fun h' => absurd h (Rat.not_lt.2 h')⟩
theorem cmp_gt {p q : Rat} : 0 < cmpQ p q ↔ q < p := by
  rw [← Rat.not_le, ← cmp_le]; omega
theorem cmp_lt {p q : Rat} : cmpQ p q < 0 ↔ p < q := by
  rcases cmp_cases p q with ⟨h, e⟩ | ⟨h, e⟩ | ⟨h, e⟩ <;> rw [e]
  · exact ⟨fun _ => h, fun _ => by omega⟩
  · exact ⟨fun h' => by omega, fun h' => absurd (h ▸ h') Rat.lt_irrefl⟩
  · exact ⟨fun h' => by omega, fun h' => absurd h (lt_asymm' h')⟩
theorem cmp_ge {p q : Rat} : 0 ≤ cmpQ p q ↔ q ≤ p := by
  rw [← Rat.not_lt, ← cmp_lt]; omega
theorem cmp_eq {p q : Rat} : cmpQ p q = 0 ↔ p = q := by
  rcases cmp_cases p q with ⟨h, e⟩ | ⟨h, e⟩ | ⟨h, e⟩ <;> rw [e]
  · exact ⟨fun h' => by omega, fun h' => absurd (h' ▸ h) Rat.lt_irrefl⟩
  · exact ⟨fun _ => h, fun _ => rfl⟩
  · exact ⟨fun h' => by omega, fun h' => absurd (h' ▸ h) Rat.lt_irrefl⟩
theorem cmp_swap (p q : Rat) : cmpQ q p = - cmpQ p q := by
  rcases cmp_cases p q with ⟨h, e⟩ | ⟨h, e⟩ | ⟨h, e⟩ <;> rw [e]
  · unfold cmpQ; rw [if_neg (lt_asymm' h), if_pos h]; rfl
  · subst h; exact cmpQ_self p
  · unfold cmpQ; rw [if_pos h]
theorem cmp_range (p q : Rat) : -1 ≤ cmpQ p q ∧ cmpQ p q ≤ 1 := by
  rcases cmp_cases p q with ⟨_, e⟩ | ⟨_, e⟩ | ⟨_, e⟩ <;> rw [e] <;> omega
theorem sgn_cmp0 (q : Rat) : sgn q = cmpQ q 0 := by
  have h1 : q < 0 ↔ q.num < 0 := by
    rw [← Rat.not_le, ← Rat.num_nonneg]; omega
  rcases cmp_cases q 0 with ⟨h, e⟩ | ⟨h, e⟩ | ⟨h, e⟩ <;> rw [e] <;> unfold sgn
  · have := h1.1 h
    rw [if_neg (by omega), if_pos this]
  · subst h; rfl
  · have h2 : ¬ q.num < 0 := fun h' => lt_asymm' h (h1.2 h')
    have h3 : ¬ q.num = 0 := fun h' => by
      rw [Rat.num_eq_zero] at h'
      rw [h'] at h
      exact Rat.lt_irrefl h
    rw [if_neg h3, if_neg h2]
theorem lt_congr {a b c d : Rat} (h : a < b ↔ c < d) (h' : b < a ↔ d < c) : cmpQ a b = cmpQ c d := by
  unfold cmpQ
  simp only [h, h']

end Go.Proofs.Ytdpiclmjdcjajaa
