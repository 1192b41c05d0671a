/-
  The walk of leadingSteps: leading limbs below 10^18.
-/
import Derived.Test.YtdpiclmjdcjajaaN11
import Derived.Test.YtdpiclmjdcjajaaNum5
namespace Go.Proofs.Ytdpiclmjdcjajaa
open Go.RowKit Num

def StepsP (P Q : Int) (w : World) (e : Ending) (w' : World) : Prop :=
  ∃ a b c d X Y : Int, e = .returned (.agg #[.int .i64 a, .int .i64 b, .int .i64 c, .int .i64 d]) ∧ Inv P Q a b c d X Y ∧ Below w.heap.size w w'

/-- A block of four int64 that the call itself made. -/
def Box (w : World) (B g : Nat) (a b c d : Int) : Prop :=
  w.ownsRow B 133 4 (.slice (some ⟨g, 0, none⟩) 1 1) 1 [.int .i64 a, .int .i64 b, .int .i64 c, .int .i64 d]

theorem Box.cells {w : World} {B g : Nat} {a b c d : Int} (h : Box w B g a b c d) :
    w.cell? ⟨g, 0, none⟩ = some (.int .i64 a) ∧ w.cell? ⟨g, 1, none⟩ = some (.int .i64 b) ∧ w.cell? ⟨g, 2, none⟩ = some (.int .i64 c) ∧ w.cell? ⟨g, 3, none⟩ = some (.int .i64 d) :=
  ⟨h.cellAt 0 (by omega), h.cellAt 1 (by omega), h.cellAt 2 (by omega), h.cellAt 3 (by omega)⟩
theorem Box.frozen {w : World} {B g : Nat} {a b c d : Int} (h : Box w B g a b c d) :
    w.frozen? ⟨g, 0, none⟩ = false ∧ w.frozen? ⟨g, 1, none⟩ = false ∧ w.frozen? ⟨g, 2, none⟩ = false ∧ w.frozen? ⟨g, 3, none⟩ = false :=
  ⟨h.frozenAt 0, h.frozenAt 1, h.frozenAt 2, h.frozenAt 3⟩
theorem Box.store {w : World} {B g : Nat} {a b c d : Int} (h : Box w B g a b c d) (a' b' c' d' : Int) :
    Box ((((w.setCell ⟨g, 0, none⟩ (.int .i64 a')).setCell ⟨g, 1, none⟩ (.int .i64 b')).setCell ⟨g, 2, none⟩ (.int .i64 c')).setCell ⟨g, 3, none⟩ (.int .i64 d')) B g a' b' c' d' :=
  (((((h.stored 0 (.int .i64 a')).1).stored 1 (.int .i64 b')).1.stored 2 (.int .i64 c')).1.stored 3 (.int .i64 d')).1
theorem Box.new (w : World) (B : Nat) (hB : B ≤ w.heap.size) (a b c d : Int) : Box (w.alloc (.cells #[.int .i64 a, .int .i64 b, .int .i64 c, .int .i64 d] 133)) B w.heap.size a b c d :=
  World.ownsRow_lit w #[.int .i64 a, .int .i64 b, .int .i64 c, .int .i64 d] 1 hB (by unfold maxLen; omega) rfl
theorem Box.kept {w w' : World} {B g : Nat} {a b c d : Int} {row : Option Nat} (h : Box w B g a b c d) (hg : w.grownBy w' row) (hne : some g ≠ row) : Box w' B g a b c d :=
  World.ownsRow.kept h hg (.inr (by simpa [Value.ownBlock] using hne))

set_option maxHeartbeats 4000000 in
theorem leadingSteps_any (P Q : Int) (w : World) (hP0 : 0 ≤ P) (hQ0 : 0 ≤ Q) (hP : P ≤ 999999999999999999) (hQ : Q ≤ 999999999999999999) :
    Calls Try.prog 136 #[.int .i64 P, .int .i64 Q] w (StepsP P Q w) := by
  have HS := Lib.hid (inv_start hP0 hQ0 hP hQ)
  have hz : (Value.int .i64 0) = .int .i64 0 := rfl
  have HB0 : Hid (Box ((w.alloc (.cells #[.int .i64 0, .int .i64 0, .int .i64 0, .int .i64 0] 133)).alloc (.cells #[.int .i64 1, .int .i64 0, .int .i64 0, .int .i64 1] 133)) w.heap.size w.heap.size 0 0 0 0) :=
    World.ownsRow.alloc (Box.new w w.heap.size (Nat.le_refl _) 0 0 0 0) _
  have HB1 : Hid (Box ((w.alloc (.cells #[.int .i64 0, .int .i64 0, .int .i64 0, .int .i64 0] 133)).alloc (.cells #[.int .i64 1, .int .i64 0, .int .i64 0, .int .i64 1] 133)) w.heap.size (w.heap.size + 1) 1 0 0 1) := by
    have := Box.new (w.alloc (.cells #[.int .i64 0, .int .i64 0, .int .i64 0, .int .i64 0] 133)) w.heap.size (by simp) 1 0 0 1
    unfold Hid
    simpa using this
  clear hz
  go_enter Try.func136, Try.ntmps136
  go_wp2
  go_loopw [0, 1, 6] (fun x y s6 wr => ∃ a b c d X Y : Int, x = .int .i64 X ∧ y = .int .i64 Y ∧ Inv P Q a b c d X Y ∧ Box wr w.heap.size w.heap.size 0 0 0 0 ∧ Box wr w.heap.size (w.heap.size + 1) a b c d ∧ Below w.heap.size w wr) (fun _ y _ _ => (intOf y).toNat)
  case atStart => exact ⟨1, 0, 0, 1, P, Q, rfl, rfl, HS.out, HB0.out, HB1.out, ((Below.refl _ _).alloc (Nat.le_refl _) _).alloc (by simp) _⟩
  case round =>
    obtain ⟨a, b, c, d, X, Y, rfl, rfl, hinv, hbx0, hbx1, hbel⟩ := hrel
    obtain ⟨⟨ha1, ha2⟩, ⟨hb1, hb2⟩, ⟨hc1, hc2⟩, ⟨hd1, hd2⟩, hX, hY, hX0, hY0, hXa, hXb, hYc, hYd⟩ := inv_bounds hinv
    obtain ⟨c0, c1, c2, c3⟩ := hbx1.cells
    obtain ⟨f0, f1, f2, f3⟩ := hbx1.frozen
    obtain ⟨z0, z1, z2, z3⟩ := hbx0.cells
    obtain ⟨y0, y1, y2, y3⟩ := hbx0.frozen
    have hcase : (Y + c != 0) = false ∨ ((Y + c != 0) = true ∧ (Y + d != 0) = false) ∨ ((Y + c != 0) = true ∧ (Y + d != 0) = true) := by
      cases (Y + c != 0) <;> cases (Y + d != 0) <;> simp
    have H := Lib.hid (And.intro hinv (And.intro hbx0 (And.intro hbx1 hbel)))
    clear hinv hbx0 hbx1 hbel
    have hbelS := fun (W : World) (h : Below w.heap.size w W) (u0 u1 u2 u3 : Value) => (((h.setCell (p := ⟨w.heap.size, 0, none⟩) (Nat.le_refl _) u0).setCell (p := ⟨w.heap.size, 1, none⟩) (Nat.le_refl _) u1).setCell (p := ⟨w.heap.size, 2, none⟩) (Nat.le_refl _) u2).setCell (p := ⟨w.heap.size, 3, none⟩) (Nat.le_refl _) u3
    have HBS := Lib.hid hbelS
    clear hbelS
    rcases hcase with hb1 | ⟨hb1, hb2⟩ | ⟨hb1, hb2⟩
    · go_wp2
      obtain ⟨hinv, hbx0, hbx1, hbel⟩ := H.out
      refine bodyPost_ret (v := .agg #[.int .i64 a, .int .i64 b, .int .i64 c, .int .i64 d]) ?_ rfl ⟨a, b, c, d, X, Y, rfl, hinv, HBS.out _ hbel _ _ _ _⟩
      simp [results, Try.results136, go_sem, z0, z1, z2, z3]
    · go_wp2
      obtain ⟨hinv, hbx0, hbx1, hbel⟩ := H.out
      refine bodyPost_ret (v := .agg #[.int .i64 a, .int .i64 b, .int .i64 c, .int .i64 d]) ?_ rfl ⟨a, b, c, d, X, Y, rfl, hinv, HBS.out _ hbel _ _ _ _⟩
      simp [results, Try.results136, go_sem, z0, z1, z2, z3]
    · have hYc0 : 1 ≤ Y + c := by simp at hb1; omega
      have hYd0 : 1 ≤ Y + d := by simp at hb2; omega
      by_cases hq : (X + a) / (Y + c) = (X + b) / (Y + d)
      · obtain ⟨q, hq1⟩ : ∃ q, q = (X + a) / (Y + c) := ⟨_, rfl⟩
        obtain ⟨hinv, hbx0, hbx1, hbel⟩ := H.out
        obtain ⟨g1, g2, g3, ⟨g4, g5⟩, ⟨g6, g7⟩, g8, g9⟩ := inv_step hinv hP hQ (by omega) (by omega) hq1 (hq1.trans hq)
        have HG := Lib.hid (And.intro g1 (And.intro hq1 hq))
        have hne : ((X + a) / (Y + c) != (X + b) / (Y + d)) = false := by simp [hq]
        rw [hq1] at g2 g3 g4 g5 g6 g7 g8 g9
        clear g1 hq1 hq hinv hbx0 hbx1 hbel
        go_wp2
        go_roundw
        case rel =>
          obtain ⟨hinv, hbx0, hbx1, hbel⟩ := H.out
          obtain ⟨g1, hq1, hq⟩ := HG.out
          rw [hq1] at g1
          have hst := hbx1.store c d (a - (X + a) / (Y + c) * c) (b - (X + a) / (Y + c) * d)
          refine ⟨c, d, a - (X + a) / (Y + c) * c, b - (X + a) / (Y + c) * d, Y, X - (X + a) / (Y + c) * Y, rfl, rfl, g1, ?_, hst, ?_⟩
          · exact hbx0.kept (grown_setCell (grown_setCell (grown_setCell (grown_setCell (World.grownBy.refl wr (some (w.heap.size + 1))) _) _) _) _) (by simp)
          · exact (((hbel.setCell (p := ⟨w.heap.size + 1, 0, none⟩) (by simp) _).setCell (p := ⟨w.heap.size + 1, 1, none⟩) (by simp) _).setCell (p := ⟨w.heap.size + 1, 2, none⟩) (by simp) _).setCell (p := ⟨w.heap.size + 1, 3, none⟩) (by simp) _
        case measure => simp [intOf]; omega
      · have hne : ((X + a) / (Y + c) != (X + b) / (Y + d)) = true := by simp [hq]
        clear hq
        go_wp2
        obtain ⟨hinv, hbx0, hbx1, hbel⟩ := H.out
        refine bodyPost_ret (v := .agg #[.int .i64 a, .int .i64 b, .int .i64 c, .int .i64 d]) ?_ rfl ⟨a, b, c, d, X, Y, rfl, hinv, HBS.out _ hbel _ _ _ _⟩
        simp [results, Try.results136, go_sem, z0, z1, z2, z3]

end Go.Proofs.Ytdpiclmjdcjajaa
