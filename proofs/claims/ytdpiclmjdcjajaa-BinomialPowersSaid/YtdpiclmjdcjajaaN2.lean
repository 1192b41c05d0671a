/-
  The walks of cmp.Compare at int64, int and uint32, and of compare: for canonical limbs.
-/
import Derived.Test.YtdpiclmjdcjajaaN1
import Derived.Deep.QuietTactic
import Derived.BigQuiet
namespace Go.Proofs.Ytdpiclmjdcjajaa
open Go.RowKit Num

/-- -1, 0 or 1. -/
def cmpI (a b : Int) : Int := if a < b then -1 else if b < a then 1 else 0

theorem cmpI_lt {a b : Int} (h : a < b) : cmpI a b = -1 := by unfold cmpI; rw [if_pos h]
theorem cmpI_gt {a b : Int} (h : b < a) : cmpI a b = 1 := by unfold cmpI; rw [if_neg (by omega), if_pos h]
theorem cmpI_eq {a b : Int} (h : a = b) : cmpI a b = 0 := by unfold cmpI; rw [if_neg (by omega), if_neg (by omega)]

set_option maxHeartbeats 400000 in
theorem cmp92 (a b : Int) (w : World) : Calls Try.prog 131 #[.int .u32 a, .int .u32 b] w fun e w' => e = .returned (.int .i64 (cmpI a b)) ∧ w' = w := by
  rcases Int.lt_trichotomy a b with h | h | h
  · rw [cmpI_lt h]
    go_enter Try.func131, Try.ntmps131
    go_wp2
    go_ret
    exact ⟨rfl, rfl⟩
  · rw [cmpI_eq h]
    subst h
    go_enter Try.func131, Try.ntmps131
    go_wp2
    go_ret
    exact ⟨rfl, rfl⟩
  · rw [cmpI_gt h]
    go_enter Try.func131, Try.ntmps131
    go_wp2
    go_ret
    exact ⟨rfl, rfl⟩

set_option maxHeartbeats 400000 in
theorem cmp68 (a b : Int) (w : World) : Calls Try.prog 130 #[.int .i64 a, .int .i64 b] w fun e w' => e = .returned (.int .i64 (cmpI a b)) ∧ w' = w := by
  rcases Int.lt_trichotomy a b with h | h | h
  · rw [cmpI_lt h]
    go_enter Try.func130, Try.ntmps130
    go_wp2
    go_ret
    exact ⟨rfl, rfl⟩
  · rw [cmpI_eq h]
    subst h
    go_enter Try.func130, Try.ntmps130
    go_wp2
    go_ret
    exact ⟨rfl, rfl⟩
  · rw [cmpI_gt h]
    go_enter Try.func130, Try.ntmps130
    go_wp2
    go_ret
    exact ⟨rfl, rfl⟩

def CmpP (x y : Nat) (w : World) (e : Ending) (w' : World) : Prop := e = .returned (.int .i64 (cmpI x y)) ∧ ∃ n, w' = w.drewN n

theorem CmpP.below {x y : Nat} {w : World} {e : Ending} {w' : World} (h : CmpP x y w e w') : e = .returned (.int .i64 (cmpI x y)) ∧ Below w.heap.size w w' := by
  obtain ⟨h1, n, rfl⟩ := h
  exact ⟨h1, below_drewN (Below.refl _ _) n⟩

theorem drew_drewN (w : World) (n : Nat) : ∃ m, (w.drewN n).drew = w.drewN m := ⟨n + 1, by rw [← World.drewN_drewN w n 1]; rfl⟩

/-- A callee that only computes, met after some draws. -/
theorem same_after {P : Program} {f : FuncId} {args : Array Value} {w : World} {a n : Nat} {v : Value}
    (c : ∀ W : World, Calls P f args W fun e w' => e = .returned v ∧ w' = W) : Calls P f args (w.drewN (a + n)) fun e w'' => e = .returned v ∧ ∃ m, w'' = w.drewN (a + m) :=
  (c _).mono fun _ _ h => ⟨h.1, n, h.2⟩

/-- After some draws, and one more or none. -/
theorem drew_any (w : World) (n : Nat) : ∃ m, w.drewN n = w.drewN m := ⟨n, rfl⟩

theorem toNat_up (j : Nat) : ((j : Int) + 1).toNat = j + 1 := by omega

set_option maxHeartbeats 1000000 in
theorem compare_same (pa pb : Option Addr) (n qa qb : Nat) (a b : List Nat) (w : World) (hn : n ≤ 9223372036854775807) (la : a.length = n) (lb : b.length = n) (ca : Cano a) (cb : Cano b)
    (a3 : ∀ i, nth a i < 4294967296) (b3 : ∀ i, nth b i < 4294967296)
    (a4 : ∀ i, i < n → ∃ b o, pa = some ⟨b, o, none⟩ ∧ w.cell? ⟨b, o + i, none⟩ = some (.int .u32 (nth a i)))
    (b4 : ∀ i, i < n → ∃ c o, pb = some ⟨c, o, none⟩ ∧ w.cell? ⟨c, o + i, none⟩ = some (.int .u32 (nth b i))) :
    Calls Try.prog 113 #[.slice pa n qa, .slice pb n qb] w (CmpP (val a) (val b) w) := by
  have LA := Lib.hid la
  have LB := Lib.hid lb
  clear la lb
  go_enter Try.func113, Try.ntmps113
  go_wp2
  go_loopw [5] (fun i wr => ∃ q : Int, i = .int .i64 q ∧ -1 ≤ q ∧ q < n ∧ a.drop (q + 1).toNat = b.drop (q + 1).toNat ∧ ∃ m, wr = w.drewN m) (fun i _ => (intOf i + 1).toNat)
  case atStart => exact ⟨_, rfl, by omega, by omega, by rw [List.drop_of_length_le (by have := LA.out; omega), List.drop_of_length_le (by have := LB.out; omega)], 0, rfl⟩
  case round =>
    obtain ⟨q, rfl, h1, h2, hd, m, rfl⟩ := hrel
    by_cases hq : q = -1
    · subst hq
      have HD := Lib.hid hd
      clear hd
      go_wp2
      go_ret
      refine ⟨ret_int ?_, m, rfl⟩
      have : a = b := by simpa using HD.out
      rw [this, cmpI_eq rfl]
    · obtain ⟨j, rfl⟩ : ∃ j : Nat, q = j := ⟨q.toNat, by omega⟩
      obtain ⟨ba, oa, rfl, acell⟩ := a4 j (by omega)
      obtain ⟨bb, ob, rfl, bcell⟩ := b4 j (by omega)
      have ha := a3 j
      have hb := b3 j
      rw [toNat_up] at hd
      have HD := Lib.hid (And.intro hd (And.intro a3 (And.intro b3 (And.intro a4 b4))))
      clear hd a3 b3 a4 b4
      by_cases hx : nth a j = nth b j
      · rw [hx] at acell
        have HX := Lib.hid hx
        clear hx
        go_wp2
        go_quiet (fail)
        go_wp2
        go_roundw
        case rel =>
          obtain ⟨hd, a3, b3, a4, b4⟩ := HD.out
          refine ⟨_, rfl, by omega, by omega, ?_, drew_any _ _⟩
          rw [show ((j : Int) - 1 + 1).toNat = j by omega, drop_cons a j (by have := LA.out; omega), drop_cons b j (by have := LB.out; omega), hd, HX.out]
        case measure => simp [intOf]
      · have hxi : ((nth a j : Int) == (nth b j : Int)) = false := by rw [beq_eq_false_iff_ne]; omega
        have HR : Hid (cmpI (nth a j) (nth b j) = cmpI (val a) (val b)) := by
          obtain ⟨hd, a3, b3, a4, b4⟩ := HD.out
          rcases Nat.lt_or_gt_of_ne hx with h | h
          · have := val_lt_at ca.1 (by rw [LA.out, LB.out]) j (by rw [LA.out]; omega) hd h
            rw [cmpI_lt (by omega), cmpI_lt (by omega)]; rfl
          · have := val_lt_at cb.1 (by rw [LA.out, LB.out]) j (by rw [LB.out]; omega) hd.symm h
            rw [cmpI_gt (by omega), cmpI_gt (by omega)]; rfl
        go_wp2
        go_quiet (fail)
        go_wp2
        go_quiet ((go_at_call 131; exact same_after (cmp92 _ _)))
        go_wp2
        go_ret
        exact ⟨ret_int HR.out, _, by rw [World.drewN_drewN, World.drewN_drewN]⟩

set_option maxHeartbeats 1000000 in
theorem compare_any (u v : Value) (a b : List Nat) (w : World) (ha : Lim w u a) (hb : Lim w v b) (ca : Cano a) (cb : Cano b) : Calls Try.prog 113 #[u, v] w (CmpP (val a) (val b) w) := by
  obtain ⟨pa, qa, rfl, a1, a2, a3, a4⟩ := ha
  obtain ⟨pb, qb, rfl, b1, b2, b3, b4⟩ := hb
  by_cases hlen : a.length = b.length
  · rw [← hlen] at b4 ⊢
    exact compare_same pa pb a.length qa qb a b w (by omega) rfl hlen.symm ca cb a3 b3 a4 b4
  · have hl2 : ((a.length : Int) == (b.length : Int)) = false := by rw [beq_eq_false_iff_ne]; omega
    have HR : Hid (cmpI a.length b.length = cmpI (val a) (val b)) := by
      rcases Nat.lt_or_gt_of_ne hlen with h | h
      · have := can_len_lt ca cb h
        rw [cmpI_lt (by omega), cmpI_lt (by omega)]; rfl
      · have := can_len_lt cb ca h
        rw [cmpI_gt (by omega), cmpI_gt (by omega)]; rfl
    clear a4 b4
    go_enter Try.func113, Try.ntmps113
    go_wp2_with (go_at_call 130; refine (cmp68 _ _ _).mono ?_; rintro e w' ⟨rfl, rfl⟩)
    go_ret
    exact ⟨ret_int HR.out, 0, rfl⟩

end Go.Proofs.Ytdpiclmjdcjajaa
