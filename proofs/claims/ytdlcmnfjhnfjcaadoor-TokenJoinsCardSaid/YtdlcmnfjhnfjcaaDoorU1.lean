/-
  The walk of the law TokenPlaces. Condition: the table of signs lies in memory as the program's text lays it.
-/
import Derived.Test.YtdlcmnfjhnfjcaaDoorT9
namespace Go.Proofs.YtdlcmnfjhnfjcaaDoor
open Go.RowKit Tok

theorem placed_all (src : List UInt8) : ∀ (Ts : List T) (k : Nat), k ≤ src.length → Placed src k Ts → Placed src k (Ts ++ [⟨6, [], src.length⟩])
  | [], _, hk, _ => ⟨hk, by simp, by simp, trivial⟩
  | _ :: Ts, _, _, h => ⟨h.1, h.2.1, h.2.2.1, placed_all src Ts _ h.2.1 h.2.2.2⟩

theorem below_drewN {B : Nat} {a w : World} (h : Below B a w) (n : Nat) : Below B a (w.drewN n) := ⟨h.os, h.tape, h.output, h.size, h.block⟩
/-- What the loop of TokenPlaces needs of the token at place i. -/
theorem placed_at (src : List UInt8) {ts : List T} {A : Nat} {t : T} {r : List T} (h : Placed src A ts) (e : ts = t :: r) : A ≤ t.pos ∧ t.pos + t.text.length ≤ src.length ∧ (src.drop t.pos).take t.text.length = t.text ∧ Placed src (t.pos + t.text.length) r := by
  subst e; exact h

set_option maxRecDepth 100000 in
set_option maxHeartbeats 2000000 in
theorem places_ok (s : ByteArray) (w : World) (hS : SignsAt w) (hsz : s.size ≤ 16384) (L : List T) (n : Nat) (hn : L.length = n + 1) (hL : n ≤ 16384) (hP : Placed s.data.toList 0 L)
    (hl : L[n]? = some ⟨6, [], s.size⟩)
    (cs : Calls Tryd.prog 7 #[.string s] w fun e w' => ∃ a cap, e = .returned (.tuple #[.slice a (n + 1) cap, .int .i64 0, .int .i64 0]) ∧ TokAt w' a L ∧ Below w.heap.size w w') : Calls Tryd.prog 4 #[.string s] w (LawP w) := by
  have HP := Lib.hid (And.intro hP (And.intro hl hn))
  clear hP hl hn
  go_enter Tryd.func4, Tryd.ntmps4
  go_wp2_with (go_at_call 7; refine cs.mono ?_; rintro e w1 ⟨a, cap, rfl, hT, hb⟩; have HT := Lib.hid hT; clear hT; clear cs)
  go_loopw [6, 20] (fun at_ i wr => ∃ k A : Nat, k ≤ n + 1 ∧ i = .int .i64 k ∧ at_ = .int .i64 A ∧ A ≤ s.size ∧ Hid (Placed s.data.toList A (L.drop k)) ∧ Below w1.heap.size w1 wr) (fun _ i _ => (n + 1) - (intOf i).toNat)
  case atStart => exact ⟨0, 0, by omega, rfl, rfl, by omega, Lib.hid HP.out.1, Below.refl _ _⟩
  case round =>
    obtain ⟨k, A, hk, rfl, rfl, hA, HK, hbw⟩ := hrel
    by_cases hlt : k < n + 1
    · have hlt2 : k < L.length := by rw [HP.out.2.2]; exact hlt
      obtain ⟨g, rfl, c1, c2, c3⟩ := (TokAt.below HT.out hbw) k hlt2
      obtain ⟨p1, p2, p3, p4⟩ := placed_at s.data.toList HK.out (List.drop_eq_getElem_cons hlt2)
      obtain ⟨t, ht⟩ : ∃ t, L[k] = t := ⟨_, rfl⟩
      rw [ht] at c1 c2 c3 p1 p2 p3 p4
      obtain ⟨tb, htb⟩ : ∃ tb : ByteArray, (⟨t.text.toArray⟩ : ByteArray) = tb := ⟨_, rfl⟩
      have htd : tb.data.toList = t.text := by rw [← htb]
      have htz : t.text.length = tb.size := by rw [← htd, size_data]
      obtain ⟨p, hp⟩ : ∃ p, t.pos = p := ⟨_, rfl⟩
      obtain ⟨kd, hkd⟩ : ∃ kd, t.kind = kd := ⟨_, rfl⟩
      rw [htb] at c2
      rw [hp] at c3 p1 p2 p3 p4
      rw [hkd] at c1
      rw [htz] at p2 p3 p4
      rw [size_data] at p2
      have heq : ((s.extract p (p + tb.size)).toList == tb.toList) = true := by
        rw [Lib.toList_data, Lib.toList_data, Lib.extract_data, show p + tb.size - p = tb.size by omega, p3, htd]; simp
      have hx1 : decide ((p : Int) < (A : Int)) = false := decide_eq_false (by omega)
      have hx2 : decide ((s.size : Int) < (p : Int) + (tb.size : Int)) = false := decide_eq_false (by omega)
      have P4 := Lib.hid p4
      clear p3 p4 htd htz hp hkd htb ht
      go_wp2
      have y1 : IntKind.i64.wrap ((p : Int) + (tb.size : Int)) = (p : Int) + (tb.size : Int) := IntWalk.i64_in _ (by omega)
      have y2 : 0 ≤ (p : Int) + (tb.size : Int) := by omega
      have y3 : ((p : Int) + (tb.size : Int)).toNat = p + tb.size := by omega
      have y4 : (p : Int) ≤ (p : Int) + (tb.size : Int) := by omega
      have y5 : (p : Int) + (tb.size : Int) ≤ (s.size : Int) := by omega
      go_quiet (fail)
      go_wp2
      go_roundw
      case rel => exact ⟨k + 1, p + tb.size, by omega, by go_num, by go_num, by omega, Lib.hid P4.out, below_drewN (hbw.alloc hbw.size _) _⟩
      case measure => simp [intOf]; omega
    · obtain rfl : k = n + 1 := by omega
      have hlt2 : n < L.length := by rw [HP.out.2.2]; omega
      obtain ⟨g, rfl, c1, c2, c3⟩ := (TokAt.below HT.out hbw) n hlt2
      have ht : L[n] = ⟨6, [], s.size⟩ := by
        have := HP.out.2.1
        rw [List.getElem?_eq_getElem hlt2] at this
        injection this
      rw [ht] at c1 c2 c3
      clear ht
      have hSw := (hS.below hb).below hbw
      go_wp2_with (go_at_call 9; refine (awake_any _ hSw).mono ?_; rintro e w2 ⟨rfl, hb2⟩)
      go_ret
      exact ⟨rfl, (hb.trans (hbw.mono hb.size)).trans (hb2.mono (Nat.le_trans hb.size hbw.size))⟩

set_option maxRecDepth 100000 in
theorem places_bad (s : ByteArray) (w : World) (hS : SignsAt w) (p er : Nat) (he : ((er : Int) == 0) = false)
    (cs : Calls Tryd.prog 7 #[.string s] w fun e w' => e = .returned (.tuple #[.slice none 0 0, .int .i64 p, .int .i64 er]) ∧ Below w.heap.size w w') : Calls Tryd.prog 4 #[.string s] w (LawP w) := by
  go_enter Tryd.func4, Tryd.ntmps4
  go_wp2_with (first
    | (go_at_call 7; refine cs.mono ?_; rintro e w1 ⟨rfl, hb⟩; clear cs)
    | (go_at_call 9; refine (awake_any _ (hS.below hb)).mono ?_; rintro e w2 ⟨rfl, hb2⟩))
  go_ret
  exact ⟨rfl, hb.trans (hb2.mono hb.size)⟩

theorem places_any (s : ByteArray) (w : World) (hsz : s.size ≤ maxLen) (hS : SignsAt w) : Calls Tryd.prog 4 #[.string s] w (LawP w) := by
  rcases split_cases s.data.toList with ⟨Ts, h1, h2, h3, h4, h5⟩ | ⟨h5, p, e, h1, he, h2, L, h3⟩ | ⟨h5, h1⟩
  · rw [size_data] at h5 h4
    refine places_ok s w hS h5 _ Ts.length (by simp) (by omega) (placed_all _ Ts 0 (by omega) h2) (by rw [List.getElem?_append_right (Nat.le_refl _)]; simp) ?_
    refine (split_ok s w hsz hS h1).mono ?_
    rintro e w' ⟨a, cap, h, ht, hb⟩
    exact ⟨a, cap, by rw [h]; simp, ht, hb⟩
  · exact places_bad s w hS p e (by rcases he with rfl | rfl <;> rfl) (split_bad s w hsz hS h1)
  · exact places_bad s w hS 0 9 rfl (split_bad s w hsz hS h1)

end Go.Proofs.YtdlcmnfjhnfjcaaDoor
