/-
  The walk of the law RationalCarries. No conditions but that the limbs read as they are.
-/
import Derived.Test.YtjnaibeebijkaaaR11
import Derived.Test.YtjnaibeebijkaaaOpen
namespace Go.Proofs.Ytjnaibeebijkaaa
open Go.RowKit Num

theorem val_set (L : List Nat) (k x : Nat) (h : k < L.length) : val (L.set k x) + pw k * nth L k = val L + pw k * x := by
  induction L generalizing k with
  | nil => simp at h
  | cons y l ih =>
    cases k with
    | zero => simp only [List.set_cons_zero, val, nth_cons_zero, pw_zero]; omega
    | succ k =>
      have := ih k (by simpa using h)
      simp only [List.set_cons_succ, val, nth_cons_succ, pw_succ]
      rw [Nat.mul_assoc, Nat.mul_assoc]
      omega

theorem carry_val (l : List Nat) (k : Nat) (hk : k < l.length) (hx : 1 ≤ nth (l ++ [0]) (k + 1)) :
    val (((l ++ [0]).set k (nth l k + 1000000000)).set (k + 1) (nth (l ++ [0]) (k + 1) - 1)) = val l := by
  have h1 := val_set (l ++ [0]) k (nth l k + 1000000000) (by simp; omega)
  have h2 := val_set ((l ++ [0]).set k (nth l k + 1000000000)) (k + 1) (nth (l ++ [0]) (k + 1) - 1) (by simp; omega)
  rw [nth_set _ _ _ _ (by simp; omega), if_neg (by omega)] at h2
  rw [nth_append_left _ _ _ hk] at h1
  have h3 : val (l ++ [0]) = val l := val_tail l (by simp [val])
  obtain ⟨y, hy⟩ : ∃ y, nth (l ++ [0]) (k + 1) = y + 1 := ⟨nth (l ++ [0]) (k + 1) - 1, by omega⟩
  rw [hy] at h2 ⊢
  simp only [Nat.add_sub_cancel] at h2 ⊢
  rw [h3] at h1
  rw [pw_succ] at h2
  generalize val ((l ++ [0]).set k (nth l k + 1000000000)) = A at *
  generalize val (((l ++ [0]).set k (nth l k + 1000000000)).set (k + 1) y) = B at *
  rw [Nat.mul_add (1000000000 * pw k)] at h2
  rw [Nat.mul_add (pw k)] at h1
  have e : pw k * 1000000000 = 1000000000 * pw k * 1 := by rw [Nat.mul_one, Nat.mul_comm]
  rw [e] at h1
  omega

def TrueP (w : World) (e : Ending) (w' : World) : Prop := e = .returned (.bool true) ∧ Below w.heap.size w w'

theorem below_grown {w w1 w2 : World} (h : Below w.heap.size w w1) {v : Value} (hg : w1.grownBy w2 v.ownBlock) (hv : ∀ k, v.ownBlock = some k → w.heap.size ≤ k) : Below w.heap.size w w2 :=
  h.grown hg h.size hv

/-- A row of limbs that the call itself made, with room behind it. -/
def OwnC (w : World) (B g n cap : Nat) (L : List Nat) : Prop :=
  L.length = n ∧ cap ≤ 9223372036854775807 ∧ n ≤ cap ∧ (∀ i, nth L i < 4294967296) ∧ w.ownsRow B 47 1 (.slice (some ⟨g, 0, none⟩) n cap) n (lims L)

theorem ownC_of {w : World} {B n : Nat} {v : Value} {L : List Nat} (h : w.ownsRow B 47 1 v n (lims L)) (hl : L.length = n) (h0 : 0 < n) (h3 : ∀ i, nth L i < 4294967296) : ∃ g cap, v = .slice (some ⟨g, 0, none⟩) n cap ∧ OwnC w B g n cap L := by
  have h' := h
  rcases h.2 with ⟨_, e⟩ | ⟨g, cap, cur, rfl, hb, hg, hn, hm, hs, ht⟩
  · omega
  · exact ⟨g, cap, rfl, hl, by unfold maxLen at hm; omega, hn, h3, h'⟩
theorem OwnC.cell {w : World} {B g n cap : Nat} {L : List Nat} (h : OwnC w B g n cap L) (i : Nat) (hi : i < n) : w.cell? ⟨g, i, none⟩ = some (.int .u32 (nth L i)) := by
  rw [h.2.2.2.2.cellAt i (by omega), lims_get L i (by rw [h.1]; exact hi)]
theorem OwnC.frozen {w : World} {B g n cap : Nat} {L : List Nat} (h : OwnC w B g n cap L) (i : Nat) : w.frozen? ⟨g, i, none⟩ = false := h.2.2.2.2.frozenAt i
theorem OwnC.store {w : World} {B g n cap : Nat} {L : List Nat} (h : OwnC w B g n cap L) (i x : Nat) (E : Int) (hE : E = x) (hx : x < 4294967296) : OwnC (w.setCell ⟨g, i, none⟩ (.int .u32 E)) B g n cap (L.set i x) := by
  subst hE
  refine ⟨by rw [List.length_set]; exact h.1, h.2.1, h.2.2.1, fun j => ?_, ?_⟩
  · by_cases hi : i < L.length
    · rw [nth_set _ _ _ _ hi]; split; exact hx; exact h.2.2.2.1 j
    · rw [List.set_eq_of_length_le (by omega)]; exact h.2.2.2.1 j
  · rw [← lims_set]; exact (h.2.2.2.2.stored i _).1
theorem OwnC.block {w : World} {B g n cap : Nat} {L : List Nat} (h : OwnC w B g n cap L) : B ≤ g ∧ g < w.heap.size := h.2.2.2.2.lt g rfl
theorem OwnC.lim {w : World} {B g n cap : Nat} {L : List Nat} (h : OwnC w B g n cap L) : Lim w (.slice (some ⟨g, 0, none⟩) n cap) L :=
  ⟨_, _, by rw [h.1], by rw [h.1]; exact h.2.2.1, h.2.1, h.2.2.2.1, fun i hi => ⟨g, 0, rfl, by rw [Nat.zero_add]; exact h.cell i (by rw [← h.1]; exact hi)⟩⟩
theorem lims_one (l : List Nat) : lims l ++ [Value.int .u32 0] = lims (l ++ [0]) := by rw [← lims_append]; rfl

theorem Lim.cells {w : World} {b o n cap : Nat} {l : List Nat} (h : Lim w (.slice (some ⟨b, o, none⟩) n cap) l) : ∀ j u, (lims l)[j]? = some u → w.cell? ((⟨b, o, none⟩ : Addr).add j) = some u := by
  obtain ⟨a, c, e, _, _, _, h4⟩ := h
  intro j u hj
  have hlt : j < l.length := by
    rcases Nat.lt_or_ge j l.length with h | h
    · exact h
    · rw [List.getElem?_eq_none (by rw [lims_length]; exact h)] at hj; cases hj
  obtain ⟨b', o', ea, hc⟩ := h4 j hlt
  simp only [Value.slice.injEq] at e
  obtain ⟨rfl, _, _⟩ := e
  cases ea
  rw [add_spot, hc, ← hj, lims_get l j hlt]
theorem lims_oneCell (l : List Nat) : ∀ u ∈ lims l, u.oneCell' = true := by
  intro u hu
  simp only [lims, List.mem_map] at hu
  obtain ⟨x, _, rfl⟩ := hu
  rfl

set_option maxRecDepth 100000 in
set_option maxHeartbeats 4000000 in
theorem carries_go (b o cap : Nat) (l : List Nat) (n k : Nat) (w : World) (HN : Hid (l.length = n)) (HL : Hid (Lim w (.slice (some ⟨b, o, none⟩) n cap) l)) (h8 : n ≤ 8) (hk : k < n) (hc : w.cell? ⟨b, o + k, none⟩ = some (.int .u32 (nth l k))) (hx : nth l k ≤ 3294967295) :
    Calls Try.prog 13 #[.slice (some ⟨b, o, none⟩) n cap, .int .i64 k] w (TrueP w) := by
  obtain ⟨i0, hi, hz0, hz1, hz2⟩ := info_parts Try.info47
  go_enter Try.func13, Try.ntmps13
  go_wp2_with (at_builtin; refine wpList_append_own _ rfl (.const (.slice none 0 0)) (.tmp 27) 22 rfl w.heap.size 47 i0 (.int .u32 0) 1 4 Try.underlying22 hi hz0 hz1 hz2 rfl (by decide) (.slice none 0 0) 0 [] rfl (World.ownsRow_nil _ _ _ _) ⟨b, o, none⟩ n cap (lims l) rfl ?d0 ?d1 ?d2 ?d3 ?d4 (Nat.le_refl _) ?_)
  case d0 => rw [lims_length, HN.out]; omega
  case d1 => exact HL.out.cells
  case d2 => exact lims_oneCell l
  case d3 => unfold maxLen; omega
  case d4 => omega
  intro v1 w1 hown1 hgrow1 _
  have H1 := Lib.hid (And.intro hown1 hgrow1)
  have hz : w.heap.size ≤ w1.heap.size := hgrow1.size
  clear hown1 hgrow1
  go_wp2_with (at_builtin; refine wpList_append_own _ rfl (.tmp 28) (.tmp 29) 22 rfl w.heap.size 47 i0 (.int .u32 0) 1 4 Try.underlying22 hi hz0 hz1 hz2 rfl (by decide) v1 n (lims l) rfl (H1.out.1.alloc _) ⟨w1.heap.size, 0, none⟩ 1 1 [.int .u32 0] rfl rfl ?c1 ?c2 ?c3 ?c4 ?c5 ?_)
  case c1 =>
    intro j u hj
    match j, hj with
    | 0, hj => simp at hj; subst hj; simp [Addr.add]
  case c2 => intro u hu; simp at hu; subst hu; rfl
  case c3 => unfold maxLen; omega
  case c4 => omega
  case c5 => simp; omega
  intro v2 w2 hown2 hgrow2 _
  have hb2 : Below w.heap.size w w2 := (((Below.refl w.heap.size w).grown H1.out.2 (Nat.le_refl _) (by simp [Value.ownBlock])).alloc hz _).grown hgrow2 (by simp; omega) (fun q hq => (H1.out.1.lt q hq).1)
  rw [lims_one] at hown2
  obtain ⟨g, cap2, rfl, hO⟩ := ownC_of hown2 (by simp [HN.out]) (by omega) (fun i => by
    obtain ⟨_, _, _, _, _, h3, _⟩ := HL.out
    rcases Nat.lt_or_ge i l.length with h | h
    · rw [nth_append_left _ _ _ h]; exact h3 i
    · obtain ⟨e, rfl⟩ : ∃ e, i = l.length + e := ⟨i - l.length, by omega⟩
      rw [nth_append_right]
      rcases e with _ | e
      · rw [nth_cons_zero]; omega
      · rw [nth_cons_succ, nth_nil]; omega)
  have hgb := hO.block
  have c1 := hO.cell (k + 1) (by omega)
  have c0 := hO.cell k (by omega)
  have f0 := hO.frozen k
  have f1 := hO.frozen (k + 1)
  rw [nth_append_left _ _ _ (by rw [HN.out]; exact hk)] at c0
  have HY := Lib.hid (And.intro hb2 hO)
  clear hown2 hgrow2 hb2 hO H1 hz
  obtain ⟨y, hy⟩ : ∃ y, nth (l ++ [0]) (k + 1) = y := ⟨_, rfl⟩
  rw [hy] at c1
  have HYY := Lib.hid hy
  clear hy
  by_cases h0 : y = 0
  · have hb : ((y : Int) == 0) = true := by simp [h0]
    have HQ := Lib.hid h0
    clear h0
    go_wp2
    go_ret
    exact ⟨rfl, HY.out.1⟩
  · have hb : ((y : Int) == 0) = false := by simp; omega
    have hyb : y ≤ 4294967295 := by have := HY.out.2.2.2.2.1 (k + 1); rw [HYY.out] at this; omega
    have hc2 : ∀ v, (w2.setCell ⟨g, k, none⟩ v).cell? ⟨g, k + 1, none⟩ = some (.int .u32 y) := fun v => by
      exact (World.cell?_setCell_other w2 ⟨g, k, none⟩ ⟨g, k + 1, none⟩ v (by simp)).trans c1
    go_wp2_with fail
    obtain ⟨hb2, hO⟩ := HY.out
    have hO1 := hO.store k (nth l k + 1000000000) ((nth l k : Int) + 1000000000) (by omega) (by omega)
    have hO2 := hO1.store (k + 1) (y - 1) ((y : Int) - 1) (by omega) (by omega)
    have hb3 : Below w.heap.size w ((w2.setCell ⟨g, k, none⟩ (.int .u32 ((nth l k : Int) + 1000000000))).setCell ⟨g, k + 1, none⟩ (.int .u32 ((y : Int) - 1))) := (hb2.setCell hgb.1 _).setCell hgb.1 _
    have hv : val (((l ++ [0]).set k (nth l k + 1000000000)).set (k + 1) (y - 1)) = val l := by
      have := carry_val l k (by rw [HN.out]; exact hk) (by rw [HYY.out]; omega)
      rw [HYY.out] at this
      exact this
    have hl3 : (((l ++ [0]).set k (nth l k + 1000000000)).set (k + 1) (y - 1)).length = n + 1 := by simp [HN.out]
    have hw3 : w2.heap.size = ((w2.setCell ⟨g, k, none⟩ (.int .u32 ((nth l k : Int) + 1000000000))).setCell ⟨g, k + 1, none⟩ (.int .u32 ((y : Int) - 1))).heap.size := by simp
    generalize ((l ++ [0]).set k (nth l k + 1000000000)).set (k + 1) (y - 1) = M at *
    generalize (w2.setCell ⟨g, k, none⟩ (.int .u32 ((nth l k : Int) + 1000000000))).setCell ⟨g, k + 1, none⟩ (.int .u32 ((y : Int) - 1)) = w3 at *
    rw [hw3]
    have hone : Nt (w3.alloc (.cells #[.int .u32 1] 47)) (.slice (some ⟨w3.heap.size, 0, none⟩) 1 1) 1 := lim_one (by rw [World.cell?_alloc_at _ _ _ _ rfl]; rfl)
    obtain ⟨l1, hl1, _, hv1⟩ := hone
    have hll : l1.length = 1 := by
      obtain ⟨_, _, e, _⟩ := hl1
      simp only [Value.slice.injEq] at e
      exact e.2.1.symm
    have hb4 : Below w.heap.size w (w3.alloc (.cells #[.int .u32 1] 47)) := hb3.alloc hb3.size _
    have hL4 := hO2.lim.below (below_alloc1 w3 (.cells #[.int .u32 1] 47))
    have hL5 := HL.out.below hb4
    generalize (w3.alloc (.cells #[.int .u32 1] 47)) = W at *
    have hp : RatV W false (some ⟨b, o, none⟩) n cap (some ⟨w3.heap.size, 0, none⟩) 1 1 9 (rat false (val l) 1) := ⟨l, l1, HN.out, hll, hL5, hl1, by omega, by omega, by rw [hv1]⟩
    have hq : RatV W false (some ⟨g, 0, none⟩) (n + 1) cap2 (some ⟨w3.heap.size, 0, none⟩) 1 1 9 (rat false (val l) 1) := ⟨M, l1, hl3, hll, hL4, hl1, by omega, by omega, by rw [hv1, hv]⟩
    have hsz : Sz (rat false (val l) 1) 10 := by
      refine sz_rat ?_ (by have := pw_le (show 1 ≤ 10 by omega); have e : pw 1 = 1000000000 := rfl; omega) (by omega)
      obtain ⟨_, _, _, _, _, h3, _⟩ := HL.out
      exact val_lt_succ h3 (by rw [HN.out]; omega)
    have HZ := Lib.hid (And.intro hp (And.intro hq (And.intro hsz hb4)))
    have hcmp := cmp_any false false _ _ _ _ _ _ _ _ _ _ _ _ 9 _ _ W hp hq (by omega)
    rw [cmpQ_self] at hcmp
    clear hp hq hsz hb4 hL4 hL5 hl1 hv1 hll hv hl3 hw3 hb3 hO2 hO1 hO hb2 HY HYY hc2 hb hyb h0 c1 c0 f0 f1 hgb
    refine hcmp.mono ?_
    rintro e w4 ⟨rfl, hb5⟩
    have H5 := Lib.hid hb5
    clear hb5 hcmp
    go_wp2_with fail
    have hb5 := H5.out
    refine (Canonical_any _ 9 (rat false (val l) 1) w4 (HZ.out.1.below hb5).a (by omega)).mono ?_
    rintro e w5 ⟨u, rfl, hu, hb6⟩
    have hb7 := below_next hb5 hb6
    have H6 := Lib.hid (And.intro hu hb7)
    obtain ⟨an, ln, cn, ad, ld, cd, rfl, _⟩ := hu
    clear hb5 hb6 hb7 H5
    go_wp2_with fail
    have hb7 := H6.out.2
    refine (Canonical_any _ 9 (rat false (val l) 1) w5 (HZ.out.2.1.below hb7).a (by omega)).mono ?_
    rintro e w6 ⟨u2, rfl, hu2, hb8⟩
    have hb9 := below_next hb7 hb8
    have H7 := Lib.hid (And.intro (H6.out.1.below hb8) (And.intro hu2 hb9))
    obtain ⟨an2, ln2, cn2, ad2, ld2, cd2, rfl, _⟩ := hu2
    clear hb7 hb8 hb9 H6
    go_wp2_with fail
    refine (sameRat_any _ _ _ _ 10 w6 H7.out.1 H7.out.2.1 HZ.out.2.2.1 (by omega)).mono ?_
    rintro e w7 ⟨bb, rfl, hbb, hb10⟩
    obtain rfl : bb = true := hbb.2 rfl
    have H8 := Lib.hid (below_next H7.out.2.2 hb10)
    clear hbb hb10 H7
    go_wp2_with fail
    refine (awake_any w7).mono ?_
    rintro e w8 ⟨rfl, hb11⟩
    have H9 := Lib.hid (below_next' HZ.out.2.2.2 (below_next H8.out hb11))
    clear hb11 H8
    go_wp2
    go_ret
    exact ⟨rfl, H9.out⟩

set_option maxRecDepth 100000 in
set_option maxHeartbeats 1000000 in
theorem carries_out (a : Option Addr) (cap n : Nat) (i : Int) (w : World) (h1 : -9223372036854775808 ≤ i) (h2 : i ≤ 9223372036854775807) (h : 8 < n ∨ i < 0 ∨ (n : Int) ≤ i) :
    Calls Try.prog 13 #[.slice a n cap, .int .i64 i] w (TrueP w) := by
  by_cases c1 : 8 < n
  · go_enter Try.func13, Try.ntmps13
    go_wp2
    go_ret
    exact ⟨rfl, Below.refl _ _⟩
  · by_cases c2 : i < 0
    · go_enter Try.func13, Try.ntmps13
      go_wp2
      go_ret
      exact ⟨rfl, Below.refl _ _⟩
    · have c3 : (n : Int) ≤ i := by omega
      go_enter Try.func13, Try.ntmps13
      go_wp2
      go_ret
      exact ⟨rfl, Below.refl _ _⟩

set_option maxRecDepth 100000 in
set_option maxHeartbeats 1000000 in
theorem carries_big (b o cap : Nat) (x : Nat) (n k : Nat) (w : World) (h8 : n ≤ 8) (hk : k < n) (hc : w.cell? ⟨b, o + k, none⟩ = some (.int .u32 x)) (hx : 3294967295 < x) :
    Calls Try.prog 13 #[.slice (some ⟨b, o, none⟩) n cap, .int .i64 k] w (TrueP w) := by
  go_enter Try.func13, Try.ntmps13
  go_wp2
  go_ret
  exact ⟨rfl, Below.refl _ _⟩

theorem carries_walk {a : Option Addr} {n cap : Nat} {l : List Nat} {i : Int} (w : World) (h : Limbs w a n cap l) (hi : (Lit.int .i64 i).wf = true) :
    Calls Try.prog 13 #[.slice a n cap, .int .i64 i] w (TrueP w) := by
  have hb := bounds_i64 hi
  by_cases c : 8 < n ∨ i < 0 ∨ (n : Int) ≤ i
  · exact carries_out a cap n i w (by omega) (by omega) c
  · obtain ⟨k, rfl⟩ : ∃ k : Nat, i = k := ⟨i.toNat, by omega⟩
    obtain ⟨hn, hl⟩ := h
    have hl' := hl
    obtain ⟨a', c', e, _, _, _, h4⟩ := hl
    simp only [Value.slice.injEq] at e
    obtain ⟨rfl, _, _⟩ := e
    obtain ⟨b, o, rfl, hc⟩ := h4 k (by omega)
    by_cases hx : nth l k ≤ 3294967295
    · exact carries_go b o cap l n k w (Lib.hid hn) (Lib.hid hl') (by omega) (by omega) hc hx
    · exact carries_big b o cap (nth l k) n k w (by omega) (by omega) hc (by omega)

end Go.Proofs.Ytjnaibeebijkaaa
