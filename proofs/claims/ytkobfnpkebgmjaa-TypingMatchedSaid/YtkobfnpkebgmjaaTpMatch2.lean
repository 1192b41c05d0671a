/-
  The walk of typing.Match. Condition: types of at most 100000 nodes.
-/
import Derived.Test.YtkobfnpkebgmjaaTpMatch
namespace Go.Proofs.Ytkobfnpkebgmjaa
open Go.RowKit Go.Deep

/-- All that is known is small. -/
def SmallF (M : Nat) (F : List (Option Tp)) : Prop := ∀ (i : Nat) (y : Tp), F[i]? = some (some y) → size y ≤ M
theorem mv_small {M : Nat} {v : Int} {x : Tp} {F : List (Option Tp)} (h : SmallF M F) (hx : size x ≤ M) : SmallF M (mv v x F).2 := by
  have hp : SmallF M (F ++ List.replicate (v.toNat + 1 - F.length) none) := fun i y e => by
    by_cases hi : i < F.length
    · rw [List.getElem?_append_left hi] at e
      exact h i y e
    · rw [List.getElem?_append_right (by omega), List.getElem?_replicate] at e
      split at e <;> simp at e
  unfold mv
  split
  · exact h
  · split
    · exact hp
    · intro i y e
      by_cases hi : i = v.toNat
      · subst hi
        rw [List.getElem?_set_self (by rw [List.length_append, List.length_replicate]; omega)] at e
        simp only [Option.some.injEq] at e
        rw [← e]
        exact hx
      · rw [List.getElem?_set_ne (fun h => hi h.symm)] at e
        exact hp i y e
mutual
theorem mt_small (M : Nat) : ∀ (t x : Tp) (F : List (Option Tp)), SmallF M F → size x ≤ M → SmallF M (mt t x F).2
  | .mk k u us, .mk k' u' us', F, h, hx => by
    rw [mt]
    split
    · exact mv_small h hx
    · split
      · rw [size] at hx
        exact mtL_small M us us' F h (by omega)
      · exact h
theorem mtL_small (M : Nat) : ∀ (ts xs : List Tp) (F : List (Option Tp)), SmallF M F → sizeL xs ≤ M → SmallF M (mtL ts xs F).2
  | [], _, F, h, _ => by rw [mtL]; exact h; simp
  | _ :: _, [], F, h, _ => by rw [mtL]; exact h; simp
  | t :: ts, x :: xs, F, h, hx => by
    rw [sizeL] at hx
    rw [mtL]
    split
    · exact mtL_small M ts xs _ (mt_small M t x F h (by omega)) (by omega)
    · exact mt_small M t x F h (by omega)
end

/-- A row of k types that the call itself made, of which the first are set and the others zero. -/
def TpFillZ (w : World) (B g k n : Nat) (l : List Tp) : Prop :=
  ∃ xs, BoxV w B g 25 xs ∧ xs.length = k * 3 ∧ l.length ≤ k ∧ (∀ i (h : i < l.length), ∃ t0 t1 t2, xs[i * 3]? = some t0 ∧ xs[i * 3 + 1]? = some t1 ∧ xs[i * 3 + 2]? = some t2 ∧ TpC (cut w (fun b => B ≤ b ∧ b ≠ g)) n [t0, t1, t2] l[i]) ∧
    ∀ i, l.length ≤ i → i < k → xs[i * 3]? = some (.int .i64 0) ∧ xs[i * 3 + 1]? = some (.int .i64 0) ∧ xs[i * 3 + 2]? = some (.slice none 0 0)
theorem made_at (k i : Nat) (h : i < k) : (madeCells #[.int .i64 0, .int .i64 0, .slice none 0 0] (k * 3)).toList[i * 3]? = some (.int .i64 0) ∧ (madeCells #[.int .i64 0, .int .i64 0, .slice none 0 0] (k * 3)).toList[i * 3 + 1]? = some (.int .i64 0) ∧ (madeCells #[.int .i64 0, .int .i64 0, .slice none 0 0] (k * 3)).toList[i * 3 + 2]? = some (.slice none 0 0) := by
  have e : ∀ j, j < k * 3 → (madeCells #[.int .i64 0, .int .i64 0, .slice none 0 0] (k * 3)).toList[j]? = some ((#[.int .i64 0, .int .i64 0, .slice none 0 0] : Array Value).getD (j % 3) default) := fun j hj => by
    rw [Array.getElem?_toList]
    unfold madeCells
    simp [hj]
  refine ⟨?_, ?_, ?_⟩
  · rw [e _ (by omega), show i * 3 % 3 = 0 by omega]; rfl
  · rw [e _ (by omega), show (i * 3 + 1) % 3 = 1 by omega]; rfl
  · rw [e _ (by omega), show (i * 3 + 2) % 3 = 2 by omega]; rfl
theorem TpFillZ.new (w : World) (B k n : Nat) (hB : B ≤ w.heap.size) : TpFillZ (w.alloc (.cells (madeCells #[.int .i64 0, .int .i64 0, .slice none 0 0] (k * 3)) 25)) B w.heap.size k n [] :=
  ⟨(madeCells #[.int .i64 0, .int .i64 0, .slice none 0 0] (k * 3)).toList, BoxV.new w B 25 hB _, by rw [Array.length_toList, size_madeCells], Nat.zero_le _, fun i h => absurd h (by simp), fun i _ h => made_at k i h⟩
theorem TpFillZ.fill {w : World} {B g k n : Nat} {l : List Tp} (h : TpFillZ w B g k n l) : TpFill w B g k n l := by
  obtain ⟨xs, h1, h2, h3, h4, _⟩ := h
  exact ⟨xs, h1, h2, h3, h4⟩
theorem TpFillZ.kept {w w' : World} {B g k n : Nat} {l : List Tp} {row : Option Nat} (h : TpFillZ w B g k n l) (hg : w.grownBy w' row) (hrow : ∀ q, row = some q → q < B ∨ w.heap.size ≤ q) : TpFillZ w' B g k n l := by
  obtain ⟨xs, hb, h1, h2, h3, h4⟩ := h
  refine ⟨xs, hb.kept hg fun e => ?_, h1, h2, fun i hi => ?_, h4⟩
  · have := hb.block
    rcases hrow g e.symm with h | h <;> omega
  · obtain ⟨t0, t1, t2, e0, e1, e2, ht⟩ := h3 i hi
    refine ⟨t0, t1, t2, e0, e1, e2, ht.kept (cut_grown hg fun b hb hs => ⟨hs, fun e => ?_⟩)⟩
    have h1 : B ≤ b := hs.1
    rcases hrow b e.symm with h | h <;> omega
/-- The kind of the next element: unit. -/
theorem TpFillZ.unit {w : World} {B g k n : Nat} {l : List Tp} (h : TpFillZ w B g k (n + 1) l) (hl : l.length < k) : TpFillZ (w.setCell ⟨g, l.length * 3, none⟩ (.int .i64 3)) B g k (n + 1) (l ++ [.mk 3 0 []]) := by
  obtain ⟨xs, hb, h1, h2, h3, h4⟩ := h
  have hG := grown_set w g (l.length * 3) (.int .i64 3)
  have keep : ∀ b, b < w.heap.size → (B ≤ b ∧ b ≠ g) → (B ≤ b ∧ b ≠ g) ∧ some b ≠ some g := fun b _ hs => ⟨hs, fun e => hs.2 (Option.some.inj e)⟩
  refine ⟨xs.set (l.length * 3) (.int .i64 3), boxV_setT hb _ _, by simpa using h1, by rw [List.length_append, List.length_singleton]; omega, fun i hi => ?_, fun i hi hk => ?_⟩
  · rw [List.length_append, List.length_singleton] at hi
    by_cases hlt : i < l.length
    · obtain ⟨u0, u1, u2, e0, e1, e2, ht⟩ := h3 i hlt
      refine ⟨u0, u1, u2, by rw [List.getElem?_set_ne (by omega)]; exact e0, by rw [List.getElem?_set_ne (by omega)]; exact e1, by rw [List.getElem?_set_ne (by omega)]; exact e2, ?_⟩
      rw [List.getElem_append_left hlt]
      exact ht.kept (cut_grown hG keep)
    · obtain rfl : i = l.length := by omega
      have hz := h4 l.length (Nat.le_refl _) hl
      refine ⟨.int .i64 3, .int .i64 0, .slice none 0 0, by rw [List.getElem?_set_self (by omega)], by rw [List.getElem?_set_ne (by omega)]; exact hz.2.1, by rw [List.getElem?_set_ne (by omega)]; exact hz.2.2, ?_⟩
      have e : (l ++ [Tp.mk 3 0 []])[l.length] = .mk 3 0 [] := by simp
      rw [e]
      exact ⟨_, rfl, by unfold i64; omega, by unfold i64; omega, RowC.nil _ _ _⟩
  · rw [List.length_append, List.length_singleton] at hi
    have hz := h4 i (by omega) hk
    exact ⟨by rw [List.getElem?_set_ne (by omega)]; exact hz.1, by rw [List.getElem?_set_ne (by omega)]; exact hz.2.1, by rw [List.getElem?_set_ne (by omega)]; exact hz.2.2⟩
/-- The last element once more. -/
theorem TpFillZ.again {w : World} {B g k n : Nat} {l : List Tp} {x y : Tp} {t0 t1 t2 : Value} (h : TpFillZ w B g k n (l ++ [y])) (hx : TpC (cut w (fun b => B ≤ b ∧ b ≠ g)) n [t0, t1, t2] x) :
    TpFillZ (((w.setCell ⟨g, l.length * 3, none⟩ t0).setCell ⟨g, l.length * 3 + 1, none⟩ t1).setCell ⟨g, l.length * 3 + 2, none⟩ t2) B g k n (l ++ [x]) := by
  obtain ⟨xs, hb, h1, h2, h3, h4⟩ := h
  have hG := grown_trans (grown_trans (grown_set w g (l.length * 3) t0) (grown_set _ g (l.length * 3 + 1) t1)) (grown_set _ g (l.length * 3 + 2) t2)
  have keep : ∀ b, b < w.heap.size → (B ≤ b ∧ b ≠ g) → (B ≤ b ∧ b ≠ g) ∧ some b ≠ some g := fun b _ hs => ⟨hs, fun e => hs.2 (Option.some.inj e)⟩
  rw [List.length_append, List.length_singleton] at h2
  refine ⟨((xs.set (l.length * 3) t0).set (l.length * 3 + 1) t1).set (l.length * 3 + 2) t2, boxV_setT (boxV_setT (boxV_setT hb _ _) _ _) _ _, by simpa using h1, by rw [List.length_append, List.length_singleton]; omega, fun i hi => ?_, fun i hi hk => ?_⟩
  · rw [List.length_append, List.length_singleton] at hi
    by_cases hlt : i < l.length
    · obtain ⟨u0, u1, u2, e0, e1, e2, ht⟩ := h3 i (by rw [List.length_append]; omega)
      refine ⟨u0, u1, u2, ?_, ?_, ?_, ?_⟩
      · rw [List.getElem?_set_ne (by omega), List.getElem?_set_ne (by omega), List.getElem?_set_ne (by omega)]; exact e0
      · rw [List.getElem?_set_ne (by omega), List.getElem?_set_ne (by omega), List.getElem?_set_ne (by omega)]; exact e1
      · rw [List.getElem?_set_ne (by omega), List.getElem?_set_ne (by omega), List.getElem?_set_ne (by omega)]; exact e2
      · rw [List.getElem_append_left hlt] at ht ⊢
        exact ht.kept (cut_grown hG keep)
    · obtain rfl : i = l.length := by omega
      refine ⟨t0, t1, t2, ?_, ?_, ?_, ?_⟩
      · rw [List.getElem?_set_ne (by omega), List.getElem?_set_ne (by omega), List.getElem?_set_self (by omega)]
      · rw [List.getElem?_set_ne (by omega), List.getElem?_set_self (by rw [List.length_set]; omega)]
      · rw [List.getElem?_set_self (by rw [List.length_set, List.length_set]; omega)]
      · have e : (l ++ [x])[l.length] = x := by simp
        rw [e]
        exact hx.kept (cut_grown hG keep)
  · rw [List.length_append, List.length_singleton] at hi
    have hz := h4 i (by rw [List.length_append, List.length_singleton]; omega) hk
    refine ⟨?_, ?_, ?_⟩
    · rw [List.getElem?_set_ne (by omega), List.getElem?_set_ne (by omega), List.getElem?_set_ne (by omega)]; exact hz.1
    · rw [List.getElem?_set_ne (by omega), List.getElem?_set_ne (by omega), List.getElem?_set_ne (by omega)]; exact hz.2.1
    · rw [List.getElem?_set_ne (by omega), List.getElem?_set_ne (by omega), List.getElem?_set_ne (by omega)]; exact hz.2.2

def MatchP (T x : Tp) (N : Nat) (w : World) (e : Ending) (w' : World) : Prop :=
  ∃ v b, e = .returned (.tuple #[v, .bool b]) ∧ Below w.heap.size w w' ∧ b = (mt T x []).1 ∧ (b = true → TpsC (cut w' (fun y => w.heap.size ≤ y)) N v (got (mt T x []).2))

set_option maxRecDepth 100000 in
set_option maxHeartbeats 8000000 in
theorem matchTop_any (n m : Nat) (cs cs' : List Value) (T x : Tp) (w : World) (hT : TpC w.cell? n cs T) (hX : TpC w.cell? m cs' x) (hx : size x ≤ 100000) :
    Calls Try.prog 12 #[.agg cs.toArray, .agg cs'.toArray] w (MatchP T x (n + m + 1) w) := by
  obtain ⟨k0, u0, a0, m0, c0, rfl⟩ := tp_shape hT
  obtain ⟨k1, u1, a1, m1, c1, rfl⟩ := tp_shape hX
  have hbA := below_alloc1 w (.cells #[.int .i64 k0, .int .i64 u0, .slice a0 m0 c0] 25)
  have hbB := below_alloc1 (w.alloc (.cells #[.int .i64 k0, .int .i64 u0, .slice a0 m0 c0] 25)) (.cells #[.int .i64 k1, .int .i64 u1, .slice a1 m1 c1] 25)
  have hB1 := (BoxV.new w w.heap.size 25 (Nat.le_refl _) [.int .i64 k0, .int .i64 u0, .slice a0 m0 c0]).below hbB
  have hB2 := BoxV.new (w.alloc (.cells #[.int .i64 k0, .int .i64 u0, .slice a0 m0 c0] 25)) w.heap.size 25 (by simp) [.int .i64 k1, .int .i64 u1, .slice a1 m1 c1]
  have hz : (w.alloc (.cells #[.int .i64 k0, .int .i64 u0, .slice a0 m0 c0] 25)).heap.size = w.heap.size + 1 := by simp
  rw [hz] at hB2
  have hsz : ((w.alloc (.cells #[.int .i64 k0, .int .i64 u0, .slice a0 m0 c0] 25)).alloc (.cells #[.int .i64 k1, .int .i64 u1, .slice a1 m1 c1] 25)).heap.size = w.heap.size + 1 + 1 := by simp
  have hbW := below_next' hbA (hbB.mono (Nat.le_refl _))
  have hbW' : Below w.heap.size w ((w.alloc (.cells #[.int .i64 k0, .int .i64 u0, .slice a0 m0 c0] 25)).alloc (.cells #[.int .i64 k1, .int .i64 u1, .slice a1 m1 c1] 25)) := (below_alloc1 w _).alloc (by simp) _
  have hP1 : PtrR ((w.alloc (.cells #[.int .i64 k0, .int .i64 u0, .slice a0 m0 c0] 25)).alloc (.cells #[.int .i64 k1, .int .i64 u1, .slice a1 m1 c1] 25)) n (.pointer (some ⟨w.heap.size, 0, none⟩)) (some T) :=
    ⟨_, _, _, _, _, rfl, hB1.cell 0 (by simp), hB1.cell 1 (by simp), hB1.cell 2 (by simp), hT.kept fun _ _ h => cell_below hbW' h⟩
  have hP2 : PtrR ((w.alloc (.cells #[.int .i64 k0, .int .i64 u0, .slice a0 m0 c0] 25)).alloc (.cells #[.int .i64 k1, .int .i64 u1, .slice a1 m1 c1] 25)) m (.pointer (some ⟨w.heap.size + 1, 0, none⟩)) (some x) :=
    ⟨_, _, _, _, _, rfl, hB2.cell 0 (by simp), hB2.cell 1 (by simp), hB2.cell 2 (by simp), hX.kept fun _ _ h => cell_below hbW' h⟩
  obtain ⟨W0, hW0⟩ : ∃ W, (w.alloc (.cells #[.int .i64 k0, .int .i64 u0, .slice a0 m0 c0] 25)).alloc (.cells #[.int .i64 k1, .int .i64 u1, .slice a1 m1 c1] 25) = W := ⟨_, rfl⟩
  rw [hW0] at hP1 hP2 hbW' hsz
  have hbM := below_alloc1 W0 (.cells #[.slice none 0 0] 52)
  have hM : FoundR W0 (W0.alloc (.cells #[.slice none 0 0] 52)) (w.heap.size + 1 + 1) (n + m) [] := ⟨_, by rw [← hsz]; exact BoxV.new W0 W0.heap.size 52 (Nat.le_refl _) [.slice none 0 0], FoundV.nil _ _ _ _⟩
  have hcall := match_any W0 (w.heap.size + 1 + 1) (n + m) n m (by omega) w.heap.size 0 (w.heap.size + 1) 0 T x [] _ hP1 hP2 hbM hM (by simp)
  have hlen := mt_length T x [] (by simp)
  have hsm := mt_small 100000 T x [] (fun i y h => by simp at h) hx
  obtain ⟨R, hR⟩ : ∃ R, mt T x [] = R := ⟨_, rfl⟩
  have hMP : ∀ e w', MatchP T x (n + m + 1) w e w' ↔ ∃ v b, e = .returned (.tuple #[v, .bool b]) ∧ Below w.heap.size w w' ∧ b = R.1 ∧ (b = true → TpsC (cut w' (fun y => w.heap.size ≤ y)) (n + m + 1) v (got R.2)) := fun e w' => by unfold MatchP; rw [hR]
  rw [hR] at hcall hlen hsm
  have HA := Lib.hid (And.intro hcall (And.intro hlen (And.intro hsm (And.intro hbW' (And.intro hsz (And.intro hMP (And.intro hP1 hP2)))))))
  have HW := Lib.hid hW0
  clear hcall hlen hsm hbW hbW' hR hMP hP1 hP2 hM hbM hsz hz hB1 hB2 hbA hbB hT hX hx hW0
  go_enter Try.func12, Try.ntmps12
  go_wp2_with fail
  rw [HW.out]
  refine HA.out.1.mono ?_
  rintro e w2 ⟨rfl, hb2, vf, hP2, hV2⟩
  obtain ⟨r1, F⟩ := R
  cases r1
  · have HF := Lib.hid (below_next' HA.out.2.2.2.1 hb2)
    clear hb2 hP2 hV2
    go_wp2_with fail
    go_ret2
    exact (HA.out.2.2.2.2.2.1 _ _).2 ⟨_, _, rfl, HF.out, rfl, fun h => by cases h⟩
  have hL1 : F.length ≤ 101 := HA.out.2.1
  obtain ⟨af, cf, rfl, hc1, hc2, hc3⟩ := hV2.shape
  obtain ⟨L, hLe⟩ : ∃ L, F.length = L := ⟨_, rfl⟩
  have hL := Lib.hid hLe
  have m0 := hP2.cell 0 (by simp)
  rw [hLe] at hc1 hc3 hP2 hV2 m0 hL1
  have hmk := fun W => run_makeTp L W (by omega)
  have HB := Lib.hid (And.intro hb2 (And.intro hP2 (And.intro hV2 hc3)))
  have m0' := cell_below (below_alloc1 w2 (.cells (madeCells #[.int .i64 0, .int .i64 0, .slice none 0 0] (L * 3)) 25)) m0
  clear hb2 hP2 hV2 hLe hc3
  go_wp2_with fail
  clear m0'
  have hbA := below_alloc1 w2 (.cells (madeCells #[.int .i64 0, .int .i64 0, .slice none 0 0] (L * 3)) 25)
  have hpg : w.heap.size + 1 + 1 < w2.heap.size := HB.out.2.1.block.2
  have hF1 := TpFillZ.new w2 w2.heap.size L (n + m + 1) (Nat.le_refl _)
  have HC := Lib.hid (And.intro hF1 (And.intro (below_next' HB.out.1 hbA) (And.intro (HB.out.2.2.1.below hbA) hmk)))
  have hown := Lib.hid HB.out.2.2.1.own
  clear hF1 hbA hmk m0
  generalize w2.alloc (.cells (madeCells #[.int .i64 0, .int .i64 0, .slice none 0 0] (L * 3)) 25) = W3 at HC ⊢
  go_loopw [19] (fun y wr => ∃ i : Nat, i ≤ L ∧ y = .int .i64 i ∧ Below W0.heap.size W0 wr ∧ w2.heap.size ≤ wr.heap.size ∧ FoundV W0 wr (w.heap.size + 1 + 1) (n + m) (.slice af L cf) F ∧ TpFillZ wr w2.heap.size w2.heap.size L (n + m + 1) ((got F).take i)) (fun y _ => L - (intOf y).toNat)
  case atStart => exact ⟨0, Nat.zero_le _, rfl, HC.out.2.1, by
    obtain ⟨xs, hbx, _⟩ := HC.out.1
    exact Nat.le_of_lt hbx.block.2, HC.out.2.2.1, by rw [List.take_zero]; exact HC.out.1⟩
  case round =>
    obtain ⟨i, hi, rfl, hb, hge, hV, hZ⟩ := hrel
    have hgl : (got F).length = L := by unfold got; rw [List.length_map]; exact hL.out
    have hti : ((got F).take i).length = i := by rw [List.length_take]; omega
    by_cases hlt : i < L
    · have hii : (i : Int) < (L : Int) := by omega
      obtain ⟨g, rfl⟩ := HB.out.2.2.2 (by omega)
      have hgo := hown.out g rfl
      have hV' := hV
      rw [← hL.out] at hV'
      obtain ⟨v, kf, _, hpv⟩ := hV'.cell (i := i) (by rw [hL.out]; exact hlt)
      obtain ⟨x0, hx0⟩ : ∃ y, F[i]'(by rw [hL.out]; exact hlt) = y := ⟨_, rfl⟩
      rw [hx0] at hpv
      have hgi : (got F)[i]'(by omega) = x0.getD (.mk 3 0 []) := by unfold got; rw [List.getElem_map, hx0]
      have htk : (got F).take (i + 1) = (got F).take i ++ [x0.getD (.mk 3 0 [])] := by rw [List.take_succ_eq_append_getElem (by omega), hgi]
      have hgw : g ≠ w2.heap.size := by omega
      obtain ⟨z0, e0, f0⟩ := hZ.fill.cells (i * 3) (by omega)
      have hU := hZ.unit (by omega)
      rw [hti] at hU
      have hG := grown_set wr w2.heap.size (i * 3) (.int .i64 3)
      have hV9 := hV.kept hG (.inr (by simp [Value.ownBlock]; omega))
      have hW0s : W0.heap.size ≤ w2.heap.size := HB.out.1.size
      have hb9 := hb.grown hG hb.size (fun q hq => by cases hq; exact hW0s)
      have k9 := hG.cell kf (by simp; omega)
      cases x0 with
      | none =>
        obtain rfl : v = .pointer none := hpv
        have HD := Lib.hid (And.intro hU (And.intro hV9 (And.intro hb9 (And.intro (Nat.le_trans hge hG.size) htk))))
        clear hU hV9 hb9 hG htk hgi hx0 hV hV' hZ hb hge hti hgl hgo
        go_wp2_with fail
        go_roundw
        case rel => exact ⟨i + 1, by omega, by go_num, HD.out.2.2.1, HD.out.2.2.2.1, HD.out.2.1, by rw [HD.out.2.2.2.2]; exact HD.out.1⟩
        case measure => simp [intOf] <;> omega
      | some y =>
        obtain ⟨b2, o2, s0, s1, s2, rfl, d0, d1, d2, hTy⟩ := hpv
        have d0w := cell_below hb9 d0
        have d1w := cell_below hb9 d1
        have d2w := cell_below hb9 d2
        have hsy : size y ≤ 100000 := HA.out.2.2.1 i y (by
          show F[i]? = _
          rw [List.getElem?_eq_getElem (by rw [hL.out]; exact hlt), hx0])
        have hcall := subst14_any [] 0 (n + m) (.slice none 0 0) [s0, s1, s2] y _ (hTy.kept fun _ _ h => cell_below hb9 h) (RowC.nil _ _ _) hsy (by simp)
        have HD := Lib.hid (And.intro hcall (And.intro hU (And.intro hV9 (And.intro hb9 (And.intro (Nat.le_trans hge hG.size) htk)))))
        clear hU hV9 hb9 hG htk hgi hx0 hV hV' hZ hb hge hgl hgo hcall hTy hsy d0 d1 d2
        go_wp2_with fail
        refine HD.out.1.mono ?_
        rintro e w6 ⟨r, rfl, hb6, k5, u5, a5, m5, c5, rfl, hx⟩
        rw [sub_nil] at hx
        have hgr6 : (wr.setCell ⟨w2.heap.size, i * 3, none⟩ (.int .i64 3)).grownBy w6 none := ⟨hb6.os, hb6.tape, hb6.output, hb6.size, fun k hk _ => hb6.block k hk⟩
        have hU6 := HD.out.2.1.kept hgr6 (by simp)
        obtain ⟨y0, e0', f0'⟩ := hU6.fill.cells (i * 3) (by omega)
        obtain ⟨y1, e1', f1'⟩ := hU6.fill.cells (i * 3 + 1) (by omega)
        obtain ⟨y2, e2', f2'⟩ := hU6.fill.cells (i * 3 + 2) (by omega)
        have hx6 : TpC (cut w6 (fun b => w2.heap.size ≤ b ∧ b ≠ w2.heap.size)) (n + m + 1) [.int .i64 k5, .int .i64 u5, .slice a5 m5 c5] y := (hx.le (by omega)).kept (cut_le fun b hb => by
          have h1 : (wr.setCell ⟨w2.heap.size, i * 3, none⟩ (.int .i64 3)).heap.size ≤ b := hb
          have h2 := HD.out.2.2.2.2.1
          have h3 : w2.heap.size < (wr.setCell ⟨w2.heap.size, i * 3, none⟩ (.int .i64 3)).heap.size := by
            obtain ⟨xs, hbx, _⟩ := HD.out.2.1
            exact hbx.block.2
          exact ⟨by omega, by omega⟩)
        have hfin := hU6.again hx6
        rw [hti] at hfin
        have hGs := grown_trans (grown_trans (grown_set w6 w2.heap.size (i * 3) (.int .i64 k5)) (grown_set _ w2.heap.size (i * 3 + 1) (.int .i64 u5))) (grown_set _ w2.heap.size (i * 3 + 2) (.slice a5 m5 c5))
        have hVf := (HD.out.2.2.1.below hb6).kept hGs (.inr (by simp [Value.ownBlock]; omega))
        have hbf := (below_next' HD.out.2.2.2.1 hb6).grown hGs (below_next' HD.out.2.2.2.1 hb6).size (fun q hq => by cases hq; exact hW0s)
        have hgef := Nat.le_trans (Nat.le_trans HD.out.2.2.2.2.1 hb6.size) hGs.size
        have HE := Lib.hid (And.intro hfin (And.intro hVf (And.intro hbf hgef)))
        clear hfin hVf hbf hgef hGs hx6 hx hU6 hgr6 hb6 hti k9 kf d0w d1w d2w e0 f0
        go_wp2_with fail
        go_roundw
        case rel => exact ⟨i + 1, by omega, by go_num, HE.out.2.2.1, HE.out.2.2.2, HE.out.2.1, by rw [HD.out.2.2.2.2.2]; exact HE.out.1⟩
        case measure => simp [intOf] <;> omega
    · obtain rfl : i = L := by omega
      rw [List.take_of_length_le (by omega)] at hZ
      have hfin : MatchP T x (n + m + 1) w (.returned (.tuple #[.slice (some ⟨w2.heap.size, 0, none⟩) i i, .bool true])) wr := (HA.out.2.2.2.2.2.1 _ _).2 ⟨_, _, rfl, below_next' HA.out.2.2.2.1 hb, rfl, fun _ => by
        have h1 := hZ.fill
        rw [← hgl] at h1 ⊢
        exact (h1.tps (by omega)).kept (cut_le fun b hb => by
          have h2 : w2.heap.size ≤ b := hb
          show w.heap.size ≤ b
          omega)⟩
      have HF := Lib.hid hfin
      clear hfin hZ hV hb hge hti hgl hlt
      go_wp2_with fail
      go_ret2
      exact HF.out
end Go.Proofs.Ytkobfnpkebgmjaa
