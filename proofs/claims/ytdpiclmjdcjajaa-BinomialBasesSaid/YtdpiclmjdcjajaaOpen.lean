/-
  An argument of the laws, opened: a slice of limbs, a value of type api.Rat. No conditions but those of each lemma.
-/
import Derived.Test.YtdpiclmjdcjajaaR6
import Derived.ProofKit
import Derived.OpenShut
import Derived.ShutString
import Derived.ChangeOld
import Derived.Lib.SmallJoins
namespace Go.Proofs.Ytdpiclmjdcjajaa
open Go.ChangeShapes Go.WideShapes Go.ChangeAt Go.RowKit Go.Deep Num

theorem own : ownKnob Try.prog.godebug = none := by kernel_rfl
theorem laidOut : laidOutB Try.prog = true := by kernel_rfl
theorem Try.cells24 : Try.prog.cellsOf 24 = 3 := by kernel_rfl
theorem Try.one24 : oneCellFields Try.prog #[{ name := "Neg", type := 4, offset := 0, embedded := false, tag := "", pkgPath := "", byteOffset := 0 }, { name := "Num", type := 22, offset := 1, embedded := false, tag := "", pkgPath := "", byteOffset := 8 }, { name := "Den", type := 22, offset := 2, embedded := false, tag := "", pkgPath := "", byteOffset := 32 }] = true := by kernel_rfl
theorem Try.cells58' : Try.prog.cellsOf 58 = 1 := by kernel_rfl

/-- What an argument says: its limbs, however many. -/
def Limbs (w : World) (a : Option Addr) (n cap : Nat) (l : List Nat) : Prop := l.length = n ∧ Lim w (.slice a n cap) l

theorem add_spot (b o i : Nat) : (⟨b, o, none⟩ : Addr).add i = ⟨b, o + i, none⟩ := by
  unfold Addr.add
  split
  · rename_i h0
    have : i = 0 := by simpa using h0
    subst this
    rfl
  · rfl

theorem limbs_open {H : Type} {enc : TypeId × Value → H} {W : World} {sp : Nat → Bool} {held : Bool} {fuel : Nat} {v : Value} {x : DataW H × List MemPlace} (hf : DataW.trod enc Try.prog W 0 sp held fuel 22 [v] = some x) :
    ∃ a n cap l, v = .slice a n cap ∧ Limbs W a n cap l := by
  rcases open_ints Try.underlying22 Try.underlying58 Try.cells58' hf with ⟨hcs, _⟩ | ⟨ad, len, cap, zs, hcs, _, hl, hm, hz, _, hcell, hwz⟩
  · simp at hcs
    exact ⟨none, 0, 0, [], hcs, rfl, Lim.nil W⟩
  · simp at hcs
    have hz' : len ≤ zs.length := by rw [hz]; split <;> omega
    have hlen : ((zs.take len).map Int.toNat).length = len := by simp; omega
    have hget : ∀ i, i < len → (nth ((zs.take len).map Int.toNat) i : Int) = zs.getD i 0 ∧ nth ((zs.take len).map Int.toNat) i < 4294967296 := by
      intro i hi
      have hi' : i < zs.length := by omega
      have hw := bounds_u32 (hwz zs[i] (by simp))
      rw [nth_eq (by omega)]
      simp [List.getD, hi']
      omega
    refine ⟨some ad, len, cap, (zs.take len).map Int.toNat, hcs, hlen, some ad, cap, by rw [hlen], by omega, by unfold maxLen at hm; omega, fun i => ?_, fun i hi => ?_⟩
    · rcases Nat.lt_or_ge i len with h | h
      · exact (hget i h).2
      · rw [nth_out (by omega)]; omega
    · rw [hlen] at hi
      have hc := hcell i (by omega)
      obtain ⟨b, o, sp'⟩ := ad
      have hsp : sp' = none := World.cell?_spot (hcell 0 (by omega))
      subst hsp
      refine ⟨b, o, rfl, ?_⟩
      rw [(hget i hi).1, ← add_spot]
      exact hc

set_option maxRecDepth 100000 in
/-- An argument of type api.Rat, whatever it holds. -/
theorem rat_open {H : Type} {enc : TypeId × Value → H} {W : World} {b0 : Nat} {r : Reach} {sp : Nat → Bool} {held : Bool} {v : Value} {d : DataW H} {p : List MemPlace} (hv : Value.okWide Try.prog W r b0 24 v) (h : DataW.Trod enc Try.prog W 0 sp held 24 v d p) :
    ∃ neg an n cn ad m cd k q, v = .agg #[.bool neg, .slice an n cn, .slice ad m cd] ∧ RatV W neg an n cn ad m cd k q := by
  obtain ⟨v0, v1, v2, y0, y1, y2, f, rfl, _, _, h0, h1, h2⟩ := Go.Joins.open_agg3 Try.underlying24 Try.one24 Try.cells24 hv h
  obtain ⟨bb, hb, _⟩ := DataW.trod_bool Try.underlying4 h0
  obtain rfl : v0 = .bool bb := by simpa using hb
  obtain ⟨an, n, cn, l1, rfl, e1, L1⟩ := limbs_open h1
  obtain ⟨ad, m, cd, l2, rfl, e2, L2⟩ := limbs_open h2
  exact ⟨bb, an, n, cn, ad, m, cd, max n m, _, rfl, l1, l2, e1, e2, L1, L2, by omega, by omega, rfl⟩

end Go.Proofs.Ytdpiclmjdcjajaa
