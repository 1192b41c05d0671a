/-
  What it says that a slice reads as a list of limbs, and that the call itself owns a row of limbs. No conditions but those of each lemma.
-/
import Derived.Test.YtdpiclmjdcjajaaRows
import Derived.WalkKit
import Derived.WalkSpells
import Derived.WalkLawsBesides
import Derived.Lib.Hide
import Derived.Test.YtdpiclmjdcjajaaNum
namespace Go.Proofs.Ytdpiclmjdcjajaa
open Go.RowKit Num

theorem Try.info58 : (Try.prog.info? 58).map (fun i => (i.zero, i.size, i.bytes)) = some (some (.int .u32 0), 1, 4) := by kernel_rfl

def lims (l : List Nat) : List Value := l.map fun (x : Nat) => Value.int .u32 (x : Int)

theorem lims_length (l : List Nat) : (lims l).length = l.length := by simp [lims]
theorem lims_get (l : List Nat) (i : Nat) (h : i < l.length) : (lims l)[i]? = some (.int .u32 (nth l i)) := by
  simp [lims, nth_eq h, h]
theorem lims_set (l : List Nat) (i x : Nat) : (lims l).set i (.int .u32 (x : Int)) = lims (l.set i x) := by simp [lims, List.map_set]
theorem lims_append (a b : List Nat) : lims a ++ lims b = lims (a ++ b) := by simp [lims]
theorem lims_replicate (n : Nat) : lims (List.replicate n 0) = List.replicate n (.int .u32 0) := by simp [lims]

/-- The slice value v reads as the limbs l. -/
def Lim (w : World) (v : Value) (l : List Nat) : Prop :=
  ∃ a cap, v = .slice a l.length cap ∧ l.length ≤ cap ∧ cap ≤ 9223372036854775807 ∧ (∀ i, nth l i < 4294967296) ∧
    ∀ i, i < l.length → ∃ b o, a = some ⟨b, o, none⟩ ∧ w.cell? ⟨b, o + i, none⟩ = some (.int .u32 (nth l i))

theorem Lim.below {w w' : World} {v : Value} {l : List Nat} (h : Lim w v l) (hb : Below w.heap.size w w') : Lim w' v l := by
  obtain ⟨a, cap, rfl, h1, h2, h3, h4⟩ := h
  refine ⟨a, cap, rfl, h1, h2, h3, fun i hi => ?_⟩
  obtain ⟨b, o, rfl, hc⟩ := h4 i hi
  exact ⟨b, o, rfl, (hb.cell (World.block_lt_of_cell? w _ hc)).trans hc⟩

theorem Lim.nil (w : World) : Lim w (.slice none 0 0) [] := ⟨none, 0, rfl, by simp, by omega, fun i => by rw [nth_nil]; omega, fun i hi => by simp at hi⟩

/-- A cut at the end. -/
theorem Lim.take {w : World} {a : Option Addr} {l : List Nat} {cap : Nat} (h : Lim w (.slice a l.length cap) l) (k : Nat) (hk : k ≤ l.length) : Lim w (.slice a k cap) (l.take k) := by
  obtain ⟨a', cap', e, h1, h2, h3, h4⟩ := h
  simp only [Value.slice.injEq, true_and] at e
  obtain ⟨rfl, rfl⟩ := e
  have hlen : (l.take k).length = k := by simp; omega
  refine ⟨a, cap, by rw [hlen], by omega, h2, fun i => by rw [nth_take]; split; exact h3 i; omega, fun i hi => ?_⟩
  rw [hlen] at hi
  obtain ⟨b, o, rfl, hc⟩ := h4 i (by omega)
  exact ⟨b, o, rfl, by rw [nth_take, if_pos hi]; exact hc⟩

/-- A row of n limbs at block g (from B on) that the call itself made. -/
def Own (w : World) (B g n : Nat) (L : List Nat) : Prop :=
  L.length = n ∧ n ≤ 9223372036854775807 ∧ (∀ i, nth L i < 4294967296) ∧ w.ownsRow B 58 1 (.slice (some ⟨g, 0, none⟩) n n) n (lims L)

variable {w w' : World} {B g n : Nat} {L : List Nat}

theorem Own.cell (h : Own w B g n L) (i : Nat) (hi : i < n) : w.cell? ⟨g, i, none⟩ = some (.int .u32 (nth L i)) := by
  rw [h.2.2.2.cellAt i (by omega), lims_get L i (by rw [h.1]; exact hi)]
theorem Own.frozen (h : Own w B g n L) (i : Nat) : w.frozen? ⟨g, i, none⟩ = false := h.2.2.2.frozenAt i
theorem Own.store (h : Own w B g n L) (i x : Nat) (hx : x < 4294967296) : Own (w.setCell ⟨g, i, none⟩ (.int .u32 (x : Int))) B g n (L.set i x) := by
  refine ⟨by rw [List.length_set]; exact h.1, h.2.1, fun j => ?_, ?_⟩
  · by_cases hi : i < L.length
    · rw [nth_set _ _ _ _ hi]; split; exact hx; exact h.2.2.1 j
    · rw [List.set_eq_of_length_le (by omega)]; exact h.2.2.1 j
  · rw [← lims_set]; exact (h.2.2.2.stored i _).1
theorem Own.store' (h : Own w B g n L) (i x : Nat) (E : Int) (hE : E = x) (hx : x < 4294967296) : Own (w.setCell ⟨g, i, none⟩ (.int .u32 E)) B g n (L.set i x) := by
  subst hE; exact h.store i x hx
theorem Own.kept {row : Option Nat} (h : Own w B g n L) (hg : w.grownBy w' row) (hne : some g ≠ row) : Own w' B g n L :=
  ⟨h.1, h.2.1, h.2.2.1, h.2.2.2.kept hg (.inr (by simpa [Value.ownBlock] using hne))⟩
theorem Own.alloc (h : Own w B g n L) (o : Obj) : Own (w.alloc o) B g n L := ⟨h.1, h.2.1, h.2.2.1, h.2.2.2.alloc o⟩
theorem Own.drew (h : Own w B g n L) : Own w.drew B g n L := h
theorem Own.drewN (h : Own w B g n L) (k : Nat) : Own (w.drewN k) B g n L := h
theorem Own.block (h : Own w B g n L) : B ≤ g ∧ g < w.heap.size := h.2.2.2.lt g rfl
theorem Own.below (h : Own w B g n L) (hb : Below w.heap.size w w') : Own w' B g n L :=
  ⟨h.1, h.2.1, h.2.2.1, h.2.2.2.kept (row := none) ⟨hb.os, hb.tape, hb.output, hb.size, fun k hk _ => hb.block k hk⟩ (.inr (by simp [Value.ownBlock]))⟩
theorem Own.len (h : Own w B g n L) : L.length = n := h.1
theorem Own.lim (h : Own w B g n L) : Lim w (.slice (some ⟨g, 0, none⟩) n n) L :=
  ⟨_, _, by rw [h.1], by rw [h.1]; exact Nat.le_refl _, h.2.1, h.2.2.1, fun i hi => ⟨g, 0, rfl, by rw [Nat.zero_add]; exact h.cell i (by rw [← h.1]; exact hi)⟩⟩
/-- A stretch of an owned row. -/
theorem Own.limAt (h : Own w B g n L) (o k c : Nat) (hk : o + k ≤ n) (hc : k ≤ c) (hc2 : c ≤ 9223372036854775807) : Lim w (.slice (some ⟨g, o, none⟩) k c) ((L.drop o).take k) := by
  have hlen : ((L.drop o).take k).length = k := by simp [h.1]; omega
  refine ⟨_, _, by rw [hlen], by rw [hlen]; exact hc, hc2, fun i => by rw [nth_take]; split; rw [nth_drop]; exact h.2.2.1 _; omega, fun i hi => ?_⟩
  rw [hlen] at hi
  refine ⟨g, o, rfl, ?_⟩
  rw [nth_take, if_pos hi, nth_drop]
  exact h.cell (o + i) (by omega)

theorem own_made (h : w.ownsRow B 58 1 (.slice (some ⟨g, 0, none⟩) n n) n (madeCells #[Value.int .u32 0] n).toList) (hn : n ≤ 9223372036854775807) : Own w B g n (List.replicate n 0) := by
  refine ⟨by simp, hn, fun i => by rw [nth_replicate]; omega, ?_⟩
  rw [lims_replicate, ← toList_madeCells_one]; exact h

/-- What an appended row reads as. -/
theorem lim_owns {v : Value} (h : w.ownsRow B 58 1 v n (lims L)) (hl : L.length = n) (h3 : ∀ i, nth L i < 4294967296) : Lim w v L := by
  rcases h.2 with ⟨rfl, rfl⟩ | ⟨g, cap, cur, rfl, hb, hg, hn, hm, hs, ht⟩
  · rw [List.eq_nil_of_length_eq_zero hl]; exact Lim.nil w
  · subst hl
    refine ⟨_, _, rfl, hn, by unfold maxLen at hm; omega, h3, fun i hi => ⟨g, 0, rfl, ?_⟩⟩
    rw [Nat.zero_add, h.cellAt i (by omega), lims_get L i hi]

/-- A canonical natural number in memory. -/
def Nt (w : World) (v : Value) (x : Nat) : Prop := ∃ l, Lim w v l ∧ Cano l ∧ val l = x

theorem Nt.below {v : Value} {x : Nat} (h : Nt w v x) (hb : Below w.heap.size w w') : Nt w' v x := by
  obtain ⟨l, h1, h2, h3⟩ := h
  exact ⟨l, h1.below hb, h2, h3⟩

theorem bcell {W w1 : World} (hb : Below W.heap.size W w1) : (∀ b o, b < W.heap.size → w1.cell? ⟨b, o, none⟩ = W.cell? ⟨b, o, none⟩) ∧ (∀ b o, b < W.heap.size → w1.frozen? ⟨b, o, none⟩ = W.frozen? ⟨b, o, none⟩) :=
  ⟨fun b o h => hb.cell (p := ⟨b, o, none⟩) h, fun b o h => hb.frozen (p := ⟨b, o, none⟩) h⟩

theorem ret_eq {a b : Value} (h : a = b) : Ending.returned a = .returned b := by rw [h]
theorem ret_int {k : IntKind} {a b : Int} (h : a = b) : Ending.returned (.int k a) = .returned (.int k b) := by rw [h]

end Go.Proofs.Ytdpiclmjdcjajaa
