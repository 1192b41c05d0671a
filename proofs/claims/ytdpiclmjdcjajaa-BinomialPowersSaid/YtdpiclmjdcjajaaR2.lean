/-
  The walks of readSmall: limbs below 2^32.
-/
import Derived.Test.YtdpiclmjdcjajaaR1
namespace Go.Proofs.Ytdpiclmjdcjajaa
open Go.RowKit Num

/-- A number whose numerator and denominator have one limb each, if it is one. -/
def SmallP (q : Rat) (w : World) (e : Ending) (w' : World) : Prop :=
  ∃ (a b : Int) (ok : Bool), e = .returned (.tuple #[.agg #[.int .i64 a, .int .i64 b], .bool ok]) ∧ (ok = true → quo a b = q ∧ -999999999 ≤ a ∧ a ≤ 999999999 ∧ 1 ≤ b ∧ b ≤ 999999999) ∧ Below w.heap.size w w'

theorem quo_zero_one : quo 0 1 = 0 := rat_zero_num _ _
theorem quo_pos (n d : Nat) : quo n d = rat false n d := by
  unfold quo
  have h1 : decide ((n : Int) < 0) = false := by simp
  have h2 : decide ((d : Int) < 0) = false := by simp
  rw [h1, h2]; rfl
theorem quo_neg (n d : Nat) : quo (-(n : Int)) d = rat true n d := by
  rcases Nat.eq_zero_or_pos n with h | h
  · subst h; rw [rat_zero_num]; exact rat_zero_num _ _
  · unfold quo
    have h1 : decide (-(n : Int) < 0) = true := by simp; omega
    have h2 : decide ((d : Int) < 0) = false := by simp
    rw [h1, h2]; simp

theorem below_alloc1 (w : World) (o : Obj) : Below w.heap.size w (w.alloc o) := (Below.refl _ _).alloc (Nat.le_refl _) o
theorem below_alloc2 (w : World) (o o' : Obj) : Below w.heap.size w ((w.alloc o).alloc o') := (below_alloc1 w o).alloc (by simp) o'
theorem below_alloc3 (w : World) (o o' o'' : Obj) : Below w.heap.size w (((w.alloc o).alloc o').alloc o'') := (below_alloc2 w o o').alloc (by simp; omega) o''

set_option maxHeartbeats 4000000 in
theorem readSmall_any (neg : Bool) (an ad : Option Addr) (cn cd : Nat) (l1 l2 : List Nat) (w : World) (h1 : Lim w (.slice an l1.length cn) l1) (h2 : Lim w (.slice ad l2.length cd) l2) :
    Calls Try.prog 107 #[.agg #[.bool neg, .slice an l1.length cn, .slice ad l2.length cd]] w (SmallP (rat neg (val l1) (val l2)) w) := by
  rcases l1 with _ | ⟨x, r1⟩
  · have hq : Hid (rat neg (val []) (val l2) = 0) := rat_zero_num _ _
    clear h1 h2
    go_enter Try.func107, Try.ntmps107
    go_wp2
    refine bodyPost_ret (v := .tuple #[.agg #[.int .i64 0, .int .i64 1], .bool true]) (by simp [results, Try.results107, go_sem]) rfl ⟨0, 1, true, rfl, fun _ => ⟨quo_zero_one.trans hq.out.symm, by omega, by omega, by omega, by omega⟩, below_alloc2 _ _ _⟩
  rcases l2 with _ | ⟨y, r2⟩
  · have hq : Hid (rat neg (val (x :: r1)) (val []) = 0) := rat_zero_den _ _
    have hb1 : (((r1.length + 1 : Nat) : Int) == 0) = false := by rw [beq_eq_false_iff_ne]; omega
    have hb2 : ((r1.length : Int) + 1 == 0) = false := by rw [beq_eq_false_iff_ne]; omega
    clear h1 h2
    go_enter Try.func107, Try.ntmps107
    go_wp2
    refine bodyPost_ret (v := .tuple #[.agg #[.int .i64 0, .int .i64 1], .bool true]) (by simp [results, Try.results107, go_sem]) rfl ⟨0, 1, true, rfl, fun _ => ⟨quo_zero_one.trans hq.out.symm, by omega, by omega, by omega, by omega⟩, below_alloc2 _ _ _⟩
  rcases r1 with _ | ⟨x', r1⟩
  · rcases r2 with _ | ⟨y', r2⟩
    · obtain ⟨a', c', e, k1, k2, k3, k4⟩ := h1
      obtain ⟨d', f', e', j1, j2, j3, j4⟩ := h2
      simp only [Value.slice.injEq] at e e'
      obtain ⟨rfl, _, rfl⟩ := e
      obtain ⟨rfl, _, rfl⟩ := e'
      obtain ⟨bx, ox, rfl, hx⟩ := k4 0 (by simp)
      obtain ⟨b', oy, rfl, hy⟩ := j4 0 (by simp)
      have hx3 := k3 0
      have hy3 := j3 0
      rw [nth_cons_zero] at hx hy hx3 hy3
      rw [Nat.add_zero] at hx hy
      have hv : val [x] = x := by simp [val]
      have hw : val [y] = y := by simp [val]
      rw [hv, hw]
      have hlx := World.block_lt_of_cell? w _ hx
      have hly := World.block_lt_of_cell? w _ hy
      have hX : ∀ o o' o'' : Obj, (((w.alloc o).alloc o').alloc o'').cell? ⟨bx, ox, none⟩ = some (.int .u32 x) := fun o o' o'' => ((below_alloc3 w o o' o'').cell hlx).trans hx
      have hY : ∀ o o' o'' : Obj, (((w.alloc o).alloc o').alloc o'').cell? ⟨b', oy, none⟩ = some (.int .u32 y) := fun o o' o'' => ((below_alloc3 w o o' o'').cell hly).trans hy
      clear k1 k2 k3 k4 j1 j2 j3 j4 hv hw
      by_cases hxB : 1000000000 ≤ x
      · have d1 : decide ((1000000000 : Int) ≤ (x : Int)) = true := by simp; omega
        go_enter Try.func107, Try.ntmps107
        go_wp2
        refine bodyPost_ret (v := .tuple #[.agg #[.int .i64 0, .int .i64 0], .bool false]) (by simp [results, Try.results107, go_sem]) rfl ⟨0, 0, false, rfl, (fun h => by cases h), below_alloc2 _ _ _⟩
      · have d1 : decide ((1000000000 : Int) ≤ (x : Int)) = false := by simp; omega
        by_cases hyB : 1000000000 ≤ y
        · have d2 : decide ((1000000000 : Int) ≤ (y : Int)) = true := by simp; omega
          go_enter Try.func107, Try.ntmps107
          go_wp2
          refine bodyPost_ret (v := .tuple #[.agg #[.int .i64 0, .int .i64 0], .bool false]) (by simp [results, Try.results107, go_sem]) rfl ⟨0, 0, false, rfl, (fun h => by cases h), below_alloc2 _ _ _⟩
        · have d2 : decide ((1000000000 : Int) ≤ (y : Int)) = false := by simp; omega
          by_cases hy0 : y = 0
          · subst hy0
            have hq : Hid (rat neg x 0 = 0) := rat_zero_den _ _
            go_enter Try.func107, Try.ntmps107
            go_wp2
            go_region
            all_goals
              go_wp2
              refine bodyPost_ret (v := .tuple #[.agg #[.int .i64 0, .int .i64 1], .bool true]) (by simp [results, Try.results107, go_sem]) rfl ⟨0, 1, true, rfl, fun _ => ⟨quo_zero_one.trans hq.out.symm, by omega, by omega, by omega, by omega⟩, (below_alloc3 _ _ _ _).drew⟩
          · cases neg
            · go_enter Try.func107, Try.ntmps107
              go_wp2
              go_region
              all_goals
                go_wp2
                refine bodyPost_ret (v := .tuple #[.agg #[.int .i64 x, .int .i64 y], .bool true]) (by simp [results, Try.results107, go_sem]) rfl ⟨x, y, true, rfl, fun _ => ⟨quo_pos x y, by omega, by omega, by omega, by omega⟩, (below_alloc3 _ _ _ _).drew⟩
            · go_enter Try.func107, Try.ntmps107
              go_wp2
              go_region
              all_goals
                go_wp2
                refine bodyPost_ret (v := .tuple #[.agg #[.int .i64 (-x), .int .i64 y], .bool true]) (by simp [results, Try.results107, go_sem]) rfl ⟨-x, y, true, rfl, fun _ => ⟨quo_neg x y, by omega, by omega, by omega, by omega⟩, (below_alloc3 _ _ _ _).drew⟩
    · have d1 : decide ((1 : Int) < (r2.length : Int) + 1 + 1) = true := by simp; omega
      have d2 : ((r2.length : Int) + 1 + 1 == 0) = false := by rw [beq_eq_false_iff_ne]; omega
      have d4 : (1 : Int) < (r2.length : Int) + 1 + 1 := by omega
      clear h1 h2
      go_enter Try.func107, Try.ntmps107
      go_wp2
      refine bodyPost_ret (v := .tuple #[.agg #[.int .i64 0, .int .i64 0], .bool false]) (by simp [results, Try.results107, go_sem]) rfl ⟨0, 0, false, rfl, (fun h => by cases h), below_alloc2 _ _ _⟩
  · have d1 : decide ((1 : Int) < (r1.length : Int) + 1 + 1) = true := by simp; omega
    have d2 : ((r1.length : Int) + 1 + 1 == 0) = false := by rw [beq_eq_false_iff_ne]; omega
    have d3 : ((r2.length : Int) + 1 == 0) = false := by rw [beq_eq_false_iff_ne]; omega
    have d4 : (1 : Int) < (r1.length : Int) + 1 + 1 := by omega
    clear h1 h2
    go_enter Try.func107, Try.ntmps107
    go_wp2
    refine bodyPost_ret (v := .tuple #[.agg #[.int .i64 0, .int .i64 0], .bool false]) (by simp [results, Try.results107, go_sem]) rfl ⟨0, 0, false, rfl, (fun h => by cases h), below_alloc2 _ _ _⟩

end Go.Proofs.Ytdpiclmjdcjajaa
