/-
  The walks of leadingLimbs and commonDivisorOfWords. No conditions but the sizes that the theorems name.
-/
import Derived.Test.YtdpiclmjdcjajaaN10
namespace Go.Proofs.Ytdpiclmjdcjajaa
open Go.RowKit Num

def LeadP (l : List Nat) (m : Nat) (w : World) (e : Ending) (w' : World) : Prop :=
  e = .returned (.int .i64 ((nth l (m + 1) * 1000000000 + nth l m : Nat) : Int)) ∧ ∃ n, w' = w.drewN n

set_option maxHeartbeats 1000000 in
theorem leadingLimbs_any (a : Option Addr) (m cap : Nat) (l : List Nat) (w : World) (h : Lim w (.slice a (m + 2) cap) l) (hl : l.length = m + 2) (hlo : Lo l) (hm : m ≤ 1000000) :
    Calls Try.prog 137 #[.slice a (m + 2) cap] w (LeadP l m w) := by
  obtain ⟨a', cap', e, h1, h2, h3, h4⟩ := h
  simp only [Value.slice.injEq] at e
  obtain ⟨rfl, h_, rfl⟩ := e
  clear h_
  obtain ⟨b, o, rfl, c1⟩ := h4 (m + 1) (by omega)
  obtain ⟨b', o', e', c2⟩ := h4 m (by omega)
  cases e'
  have b1 := hlo (m + 1)
  have b2 := hlo m
  have HL := Lib.hid hl
  clear h3 h4 hl hlo h1 h2
  go_enter Try.func137, Try.ntmps137
  go_wp2
  go_quiet (fail)
  go_wp2
  go_ret
  exact ⟨ret_int (by simp), _, rfl⟩

def WordsP (x y : Nat) (w : World) (e : Ending) (w' : World) : Prop := e = .returned (.int .u64 (Nat.gcd x y)) ∧ ∃ n, w' = w.drewN n

set_option maxHeartbeats 1000000 in
theorem words_any (x y : Nat) (w : World) (hx : x < 18446744073709551616) (hy : y < 18446744073709551616) : Calls Try.prog 102 #[.int .u64 x, .int .u64 y] w (WordsP x y w) := by
  have hx' : x ≤ 18446744073709551615 := by omega
  have hy' : y ≤ 18446744073709551615 := by omega
  clear hx hy
  go_enter Try.func102, Try.ntmps102
  go_wp2
  go_loopw [0, 1] (fun s t wr => ∃ p q : Nat, s = .int .u64 p ∧ t = .int .u64 q ∧ p ≤ 18446744073709551615 ∧ q ≤ 18446744073709551615 ∧ Nat.gcd p q = Nat.gcd x y ∧ ∃ n, wr = w.drewN n) (fun _ t _ => (intOf t).toNat)
  case atStart => exact ⟨x, y, rfl, rfl, hx', hy', rfl, 0, rfl⟩
  case round =>
    obtain ⟨p, q, rfl, rfl, hp, hq, hg, n, rfl⟩ := hrel
    have HG := Lib.hid hg
    clear hg
    by_cases h0 : q = 0
    · have hb : ((q : Int) != 0) = false := by simp; omega
      have HQ := Lib.hid h0
      clear h0
      go_wp2
      go_ret
      refine ⟨ret_int ?_, n, rfl⟩
      rw [← HG.out, HQ.out, Nat.gcd_zero_right]
    · have hb : ((q : Int) != 0) = true := by simp; omega
      have hq1 : 1 ≤ q := by omega
      have hlt := Nat.mod_lt p (show 0 < q by omega)
      have hcast : ((p % q : Nat) : Int) = (p : Int) % (q : Int) := by simp
      go_wp2
      go_quiet (fail)
      go_wp2
      go_roundw
      case rel => exact ⟨q, p % q, rfl, by rw [hcast], hq, by omega, by rw [← HG.out, Nat.gcd_comm q, ← Nat.gcd_rec, Nat.gcd_comm], _, by rw [World.drewN_drewN]⟩
      case measure => simp [intOf]; omega

end Go.Proofs.Ytdpiclmjdcjajaa
