/-
  The walks of the laws over the program's Split alone: awake, TokenErrors, TokenPlaces. Condition: the table of signs lies in memory as the program's text lays it.
-/
import Derived.Test.YtdlcmnfjhnfjcaaDoorT7
import Derived.Test.YtdlcmnfjhnfjcaaDoorT8
namespace Go.Proofs.YtdlcmnfjhnfjcaaDoor
open Go.RowKit Tok

/-- What lies at the cells of a row of tokens. -/
def TokAt (w : World) (a : Option Addr) (L : List T) : Prop := ∀ (i : Nat) (h : i < L.length), ∃ g, a = some ⟨g, 0, none⟩ ∧
    w.cell? ⟨g, i * 3, none⟩ = some (.int .i64 (L[i]).kind) ∧ w.cell? ⟨g, i * 3 + 1, none⟩ = some (.string ⟨(L[i]).text.toArray⟩) ∧ w.cell? ⟨g, i * 3 + 2, none⟩ = some (.int .i64 (L[i]).pos)
theorem TokAt.below {w w' : World} {a : Option Addr} {L : List T} (h : TokAt w a L) (hb : Below w.heap.size w w') : TokAt w' a L := by
  intro i hi
  obtain ⟨g, rfl, h1, h2, h3⟩ := h i hi
  exact ⟨g, rfl, (hb.cell (World.block_lt_of_cell? w _ h1)).trans h1, (hb.cell (World.block_lt_of_cell? w _ h2)).trans h2, (hb.cell (World.block_lt_of_cell? w _ h3)).trans h3⟩

theorem split_ok (s : ByteArray) (w : World) (hsz : s.size ≤ maxLen) (hS : SignsAt w) {L : List T} (h : Tok.split s.data.toList = .ok L) :
    Calls Tryd.prog 7 #[.string s] w fun e w' => ∃ a cap, e = .returned (.tuple #[.slice a L.length cap, .int .i64 0, .int .i64 0]) ∧ TokAt w' a L ∧ Below w.heap.size w w' := by
  refine (split_any s w hsz hS).mono ?_
  rintro e w' ⟨V, rfl, hV, hb⟩
  rw [h] at hV
  obtain ⟨v, rfl, a, cap, rfl, hT⟩ := hV
  exact ⟨a, cap, rfl, fun i hi => by rw [Nat.mul_comm i 3]; exact hT i hi, hb⟩
theorem split_bad (s : ByteArray) (w : World) (hsz : s.size ≤ maxLen) (hS : SignsAt w) {p er : Nat} (h : Tok.split s.data.toList = .err p er) :
    Calls Tryd.prog 7 #[.string s] w fun e w' => e = .returned (.tuple #[.slice none 0 0, .int .i64 p, .int .i64 er]) ∧ Below w.heap.size w w' := by
  refine (split_any s w hsz hS).mono ?_
  rintro e w' ⟨V, rfl, hV, hb⟩
  rw [h] at hV
  exact ⟨by rw [show V = _ from hV], hb⟩

/-- What a law answers. -/
def LawP (w : World) (e : Ending) (w' : World) : Prop := e = .returned (.bool true) ∧ Below w.heap.size w w'

set_option maxRecDepth 100000 in
set_option maxHeartbeats 1000000 in
theorem awake_any (w : World) (hS : SignsAt w) : Calls Tryd.prog 9 #[] w (LawP w) := by
  have cs := split_ok ⟨#[97, 60, 61, 98]⟩ w (by unfold maxLen; decide) hS awake_split
  go_enter Tryd.func9, Tryd.ntmps9
  go_wp2_with (go_at_call 7; refine cs.mono ?_; rintro e w' ⟨a, cap, rfl, hT, hb⟩; obtain ⟨g, rfl, h1, h2, h3⟩ := hT 1 (by decide); obtain ⟨g', hg', k1, k2, k3⟩ := hT 3 (by decide); simp only [Option.some.injEq, Addr.mk.injEq, and_true] at hg'; subst hg'; clear hT)
  go_ret
  exact ⟨rfl, hb⟩


set_option maxRecDepth 100000 in
theorem errors_ok (s : ByteArray) (w : World) (hS : SignsAt w) (n : Nat)
    (cs : Calls Tryd.prog 7 #[.string s] w fun e w' => ∃ a cap, e = .returned (.tuple #[.slice a n cap, .int .i64 0, .int .i64 0]) ∧ Below w.heap.size w w') : Calls Tryd.prog 6 #[.string s] w (LawP w) := by
  go_enter Tryd.func6, Tryd.ntmps6
  go_wp2_with (first
    | (go_at_call 7; refine cs.mono ?_; rintro e w1 ⟨a, cap, rfl, hb⟩)
    | (go_at_call 9; refine (awake_any _ (hS.below hb)).mono ?_; rintro e w2 ⟨rfl, hb2⟩))
  go_ret
  exact ⟨rfl, hb.trans (hb2.mono hb.size)⟩
set_option maxRecDepth 100000 in
theorem errors_long (s : ByteArray) (w : World) (hsz : s.size ≤ 9223372036854775807) (h5 : 16384 < s.size) (hS : SignsAt w)
    (cs : Calls Tryd.prog 7 #[.string s] w fun e w' => e = .returned (.tuple #[.slice none 0 0, .int .i64 0, .int .i64 9]) ∧ Below w.heap.size w w') : Calls Tryd.prog 6 #[.string s] w (LawP w) := by
  go_enter Tryd.func6, Tryd.ntmps6
  go_wp2_with (first
    | (go_at_call 7; refine cs.mono ?_; rintro e w1 ⟨rfl, hb⟩)
    | (go_at_call 9; refine (awake_any _ (hS.below hb)).mono ?_; rintro e w2 ⟨rfl, hb2⟩))
  go_ret
  exact ⟨rfl, hb.trans (hb2.mono hb.size)⟩
set_option maxRecDepth 100000 in
theorem errors_mid (s : ByteArray) (w : World) (h5 : s.size ≤ 16384) (p er : Nat) (hp : p < s.size) (he : ((er : Int) == 0) = false) (hS : SignsAt w)
    (cs : Calls Tryd.prog 7 #[.string s] w fun e w' => e = .returned (.tuple #[.slice none 0 0, .int .i64 p, .int .i64 er]) ∧ Below w.heap.size w w')
    (ct : ∀ w1, Below w.heap.size w w1 → Calls Tryd.prog 7 #[.string (s.extract 0 p)] w1 fun e w' => ∃ a n cap, e = .returned (.tuple #[.slice a n cap, .int .i64 0, .int .i64 0]) ∧ Below w1.heap.size w1 w') :
    Calls Tryd.prog 6 #[.string s] w (LawP w) := by
  have hz : ¬ 16384 < (s.size : Int) := by omega
  go_enter Tryd.func6, Tryd.ntmps6
  go_wp2_with (first
    | (go_at_call 7; refine cs.mono ?_; rintro e w1 ⟨rfl, hb⟩; clear cs)
    | (go_at_call 7; refine (ct _ hb).mono ?_; rintro e w2 ⟨a, n, cap, rfl, hb2⟩; clear ct)
    | (go_at_call 9; refine (awake_any _ ((hS.below hb).below hb2)).mono ?_; rintro e w3 ⟨rfl, hb3⟩))
  all_goals
    go_ret
    exact ⟨rfl, (hb.trans (hb2.mono hb.size)).trans (hb3.mono (Nat.le_trans hb.size hb2.size))⟩

theorem errors_any (s : ByteArray) (w : World) (hsz : s.size ≤ maxLen) (hS : SignsAt w) : Calls Tryd.prog 6 #[.string s] w (LawP w) := by
  rcases split_cases s.data.toList with ⟨Ts, h1, h2, h3, h4, h5⟩ | ⟨h5, p, e, h1, he, h2, L, h3⟩ | ⟨h5, h1⟩
  · exact errors_ok s w hS _ ((split_ok s w hsz hS h1).mono fun e w' ⟨a, cap, h, _, hb⟩ => ⟨a, cap, h, hb⟩)
  · rw [size_data] at h5 h2
    have htl : (s.extract 0 p).data.toList = s.data.toList.take p := by rw [Lib.extract_data]; simp
    refine errors_mid s w h5 p e h2 (by rcases he with rfl | rfl <;> rfl) hS (split_bad s w hsz hS h1) fun w1 hb => ?_
    refine (split_ok (s.extract 0 p) w1 (by rw [← size_data, htl, List.length_take, size_data]; unfold maxLen; omega) (hS.below hb) (by rw [htl]; exact h3)).mono ?_
    rintro e w' ⟨a, cap, h, _, hb⟩
    exact ⟨a, _, cap, h, hb⟩
  · rw [size_data] at h5
    exact errors_long s w (by unfold maxLen at hsz; omega) h5 hS (split_bad s w hsz hS h1)

end Go.Proofs.YtdlcmnfjhnfjcaaDoor
