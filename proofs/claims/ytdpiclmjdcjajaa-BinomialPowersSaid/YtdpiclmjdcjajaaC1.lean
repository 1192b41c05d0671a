/-
  The walk of the law RationalCarries. No conditions but that the limbs read as they are.
-/
import Derived.Test.YtdpiclmjdcjajaaR11
import Derived.Test.YtdpiclmjdcjajaaOpen
namespace Go.Proofs.Ytdpiclmjdcjajaa
open Go.RowKit Num

theorem val_set (L : List Nat) (k x : Nat) (h : k < L.length) : val (L.set k x) + pw k * nth L k = val L + pw k * x := by
  induction L generalizing k with
  | nil => simp at h
  | cons y l ih =>
    cases k with
    | zero => simp only [List.set_cons_zero, val, nth_cons_zero, pw_zero]; omega
    | succ k =>
      have := ih k (by simpa using h)
      simp only [List.set_cons_succ, val, nth_cons_succ, pw_succ]
      rw [Nat.mul_assoc, Nat.mul_assoc]
      omega

theorem carry_val (l : List Nat) (k : Nat) (hk : k < l.length) (hx : 1 ≤ nth (l ++ [0]) (k + 1)) :
    val (((l ++ [0]).set k (nth l k + 1000000000)).set (k + 1) (nth (l ++ [0]) (k + 1) - 1)) = val l := by
  have h1 := val_set (l ++ [0]) k (nth l k + 1000000000) (by simp; omega)
  have h2 := val_set ((l ++ [0]).set k (nth l k + 1000000000)) (k + 1) (nth (l ++ [0]) (k + 1) - 1) (by simp; omega)
  rw [nth_set _ _ _ _ (by simp; omega), if_neg (by omega)] at h2
  rw [nth_append_left _ _ _ hk] at h1
  have h3 : val (l ++ [0]) = val l := val_tail l (by simp [val])
  obtain ⟨y, hy⟩ : ∃ y, nth (l ++ [0]) (k + 1) = y + 1 := ⟨nth (l ++ [0]) (k + 1) - 1, by omega⟩
  rw [hy] at h2 ⊢
  simp only [Nat.add_sub_cancel] at h2 ⊢
  rw [h3] at h1
  rw [pw_succ] at h2
  generalize val ((l ++ [0]).set k (nth l k + 1000000000)) = A at *
  generalize val (((l ++ [0]).set k (nth l k + 1000000000)).set (k + 1) y) = B at *
  rw [Nat.mul_add (1000000000 * pw k)] at h2
  rw [Nat.mul_add (pw k)] at h1
  have e : pw k * 1000000000 = 1000000000 * pw k * 1 := by rw [Nat.mul_one, Nat.mul_comm]
  rw [e] at h1
  omega

def TrueP (w : World) (e : Ending) (w' : World) : Prop := e = .returned (.bool true) ∧ Below w.heap.size w w'

theorem below_grown {w w1 w2 : World} (h : Below w.heap.size w w1) {v : Value} (hg : w1.grownBy w2 v.ownBlock) (hv : ∀ k, v.ownBlock = some k → w.heap.size ≤ k) : Below w.heap.size w w2 :=
  h.grown hg h.size hv

/-- A row of limbs that the call itself made, with room behind it. -/
def OwnC (w : World) (B g n cap : Nat) (L : List Nat) : Prop :=
  L.length = n ∧ cap ≤ 9223372036854775807 ∧ n ≤ cap ∧ (∀ i, nth L i < 4294967296) ∧ w.ownsRow B 58 1 (.slice (some ⟨g, 0, none⟩) n cap) n (lims L)

theorem ownC_of {w : World} {B n : Nat} {v : Value} {L : List Nat} (h : w.ownsRow B 58 1 v n (lims L)) (hl : L.length = n) (h0 : 0 < n) (h3 : ∀ i, nth L i < 4294967296) : ∃ g cap, v = .slice (some ⟨g, 0, none⟩) n cap ∧ OwnC w B g n cap L := by
  have h' := h
  rcases h.2 with ⟨_, e⟩ | ⟨g, cap, cur, rfl, hb, hg, hn, hm, hs, ht⟩
  · omega
  · exact ⟨g, cap, rfl, hl, by unfold maxLen at hm; omega, hn, h3, h'⟩
theorem OwnC.cell {w : World} {B g n cap : Nat} {L : List Nat} (h : OwnC w B g n cap L) (i : Nat) (hi : i < n) : w.cell? ⟨g, i, none⟩ = some (.int .u32 (nth L i)) := by
  rw [h.2.2.2.2.cellAt i (by omega), lims_get L i (by rw [h.1]; exact hi)]
theorem OwnC.frozen {w : World} {B g n cap : Nat} {L : List Nat} (h : OwnC w B g n cap L) (i : Nat) : w.frozen? ⟨g, i, none⟩ = false := h.2.2.2.2.frozenAt i
theorem OwnC.store {w : World} {B g n cap : Nat} {L : List Nat} (h : OwnC w B g n cap L) (i x : Nat) (E : Int) (hE : E = x) (hx : x < 4294967296) : OwnC (w.setCell ⟨g, i, none⟩ (.int .u32 E)) B g n cap (L.set i x) := by
  subst hE
  refine ⟨by rw [List.length_set]; exact h.1, h.2.1, h.2.2.1, fun j => ?_, ?_⟩
  · by_cases hi : i < L.length
    · rw [nth_set _ _ _ _ hi]; split; exact hx; exact h.2.2.2.1 j
    · rw [List.set_eq_of_length_le (by omega)]; exact h.2.2.2.1 j
  · rw [← lims_set]; exact (h.2.2.2.2.stored i _).1
theorem OwnC.block {w : World} {B g n cap : Nat} {L : List Nat} (h : OwnC w B g n cap L) : B ≤ g ∧ g < w.heap.size := h.2.2.2.2.lt g rfl
theorem OwnC.lim {w : World} {B g n cap : Nat} {L : List Nat} (h : OwnC w B g n cap L) : Lim w (.slice (some ⟨g, 0, none⟩) n cap) L :=
  ⟨_, _, by rw [h.1], by rw [h.1]; exact h.2.2.1, h.2.1, h.2.2.2.1, fun i hi => ⟨g, 0, rfl, by rw [Nat.zero_add]; exact h.cell i (by rw [← h.1]; exact hi)⟩⟩
theorem lims_one (l : List Nat) : lims l ++ [Value.int .u32 0] = lims (l ++ [0]) := by rw [← lims_append]; rfl

theorem Lim.cells {w : World} {b o n cap : Nat} {l : List Nat} (h : Lim w (.slice (some ⟨b, o, none⟩) n cap) l) : ∀ j u, (lims l)[j]? = some u → w.cell? ((⟨b, o, none⟩ : Addr).add j) = some u := by
  obtain ⟨a, c, e, _, _, _, h4⟩ := h
  intro j u hj
  have hlt : j < l.length := by
    rcases Nat.lt_or_ge j l.length with h | h
    · exact h
    · rw [List.getElem?_eq_none (by rw [lims_length]; exact h)] at hj; cases hj
  obtain ⟨b', o', ea, hc⟩ := h4 j hlt
  simp only [Value.slice.injEq] at e
  obtain ⟨rfl, _, _⟩ := e
  cases ea
  rw [add_spot, hc, ← hj, lims_get l j hlt]
theorem lims_oneCell (l : List Nat) : ∀ u ∈ lims l, u.oneCell' = true := by
  intro u hu
  simp only [lims, List.mem_map] at hu
  obtain ⟨x, _, rfl⟩ := hu
  rfl

end Go.Proofs.Ytdpiclmjdcjajaa
