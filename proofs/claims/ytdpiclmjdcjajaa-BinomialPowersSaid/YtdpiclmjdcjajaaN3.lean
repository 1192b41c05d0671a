/-
  The walks of naturalOf and word: a number of 64 bits to limbs and back. No conditions but the sizes that the theorems name.
-/
import Derived.Test.YtdpiclmjdcjajaaN2
import Derived.Test.YtdpiclmjdcjajaaNum2
namespace Go.Proofs.Ytdpiclmjdcjajaa
open Go.RowKit Num

set_option maxHeartbeats 400000 in
theorem naturalOf_any (n : Nat) (hn : n < 18446744073709551616) (w : World) : Calls Try.prog 103 #[.int .u64 n] w (NtP n w) := by
  obtain ⟨i0, hi, hz0, hz1, hz2⟩ := info_parts Try.info58
  have hn' : n ≤ 18446744073709551615 := by omega
  clear hn
  go_enter Try.func103, Try.ntmps103
  go_wp2
  go_loopw [0, 3] (fun s v wr => ∃ (q : Nat) (L : List Nat), s = .int .u64 q ∧ q ≤ n ∧ wr.ownsRow w.heap.size 58 1 v L.length (lims L) ∧ Lo L ∧ val L + pw L.length * q = n ∧ (q = 0 → Cano L) ∧ Below w.heap.size w wr)
    (fun s _ _ => (intOf s).toNat)
  case atStart => exact ⟨n, [], rfl, Nat.le_refl _, World.ownsRow_nil _ _ _ _, fun i => by rw [nth_nil]; omega, by simp [val, pw], fun _ => cano_nil, Below.refl _ _⟩
  case round =>
    obtain ⟨q, L, rfl, hq, hown, hlo, hval, hcan, hbel⟩ := hrel
    by_cases h0 : q = 0
    · have hcan' := hcan h0
      clear hcan
      subst h0
      have H := Lib.hid (And.intro hown (And.intro hval (And.intro hcan' (And.intro hlo hbel))))
      clear hown hval hcan' hlo hbel
      go_wp2
      go_ret
      obtain ⟨hown, hval, hcan, hlo, hbel⟩ := H.out
      refine ⟨_, rfl, ⟨L, lim_owns hown rfl (fun i => by have := hlo i; omega), hcan, by omega⟩, hbel⟩
    · have hk := len_small (k := L.length) (q := q) (n := n) (by omega) (by omega) (by omega)
      have hpos : 0 < q := by omega
      have H := Lib.hid (And.intro hval (And.intro hlo hbel))
      have hs := hbel.size
      clear hval hcan hlo hbel
      go_wp2_with (at_builtin; refine wpList_append_own _ rfl _ _ 55 rfl w.heap.size 58 i0 (.int .u32 0) 1 4 Try.underlying55 hi hz0 hz1 hz2 rfl (by decide) _ _ _ rfl (hown.alloc _) ⟨wr.heap.size, 0, none⟩ 1 1 [.int .u32 ((q % 1000000000 : Nat) : Int)] rfl rfl ?c1 ?c2 ?c3 ?c4 ?c5 ?_)
      case c1 =>
        intro j u hj
        match j, hj with
        | 0, hj => simp at hj; subst hj; simp [Addr.add]
      case c2 => intro u hu; simp at hu; subst hu; rfl
      case c3 => unfold maxLen; omega
      case c4 => omega
      case c5 => simp; omega
      intro v' w1 hown' hgrow _
      have H2 := Lib.hid (And.intro hown' (And.intro hgrow hown))
      clear hown' hgrow hown
      go_wp2
      go_roundw
      case rel =>
        obtain ⟨hval, hlo, hbel⟩ := H.out
        obtain ⟨hown', hgrow, hown⟩ := H2.out
        refine ⟨q / 1000000000, L ++ [q % 1000000000], by go_num, by omega, ?_, lo_snoc hlo (by omega), ?_, fun h => cano_snoc hlo (by omega) (by omega), (hbel.alloc hs _).grown hgrow (by simp; omega) (fun k hk => (hown.lt k hk).1)⟩
        · rw [← lims_append]; simpa [lims] using hown'
        · simp only [List.length_append, List.length_singleton]; rw [snoc_step, hval]
      case measure => simp [intOf]; omega

/-- The number and true if it fits in 64 bits, else 0 and false. -/
def WordP (x : Nat) (w : World) (e : Ending) (w' : World) : Prop :=
  w = w' ∧ ((x < 18446744073709551616 ∧ e = .returned (.tuple #[.int .u64 x, .bool true])) ∨ (18446744073709551616 ≤ x ∧ e = .returned (.tuple #[.int .u64 0, .bool false])))

set_option maxHeartbeats 400000 in
theorem word_any (v : Value) (l : List Nat) (w : World) (h : Lim w v l) (hlo : Lo l) : Calls Try.prog 122 #[v] w (WordP (val l) w) := by
  obtain ⟨a, cap, rfl, h1, h2, h3, h4⟩ := h
  go_enter Try.func122, Try.ntmps122
  go_wp2
  go_loop [4, 5] (fun s i => ∃ (q : Int) (n : Nat), i = .int .i64 q ∧ -1 ≤ q ∧ q < l.length ∧ s = .int .u64 n ∧ n < 18446744073709551616 ∧ n = val (l.drop (q + 1).toNat)) (fun _ i => (intOf i + 1).toNat)
  case atStart => exact ⟨_, 0, rfl, by omega, by omega, rfl, by omega, by rw [List.drop_of_length_le (by omega)]; rfl⟩
  case round =>
    obtain ⟨q, n, rfl, g1, g2, rfl, hn, hv⟩ := hrel
    have hn' : n ≤ 18446744073709551615 := by omega
    have HN := Lib.hid hn
    clear hn
    by_cases hq : q = -1
    · subst hq
      have HV := Lib.hid hv
      clear hv
      go_wp2
      go_ret2
      have e : n = val l := by simpa using HV.out
      rw [← e]
      exact ⟨rfl, .inl ⟨HN.out, rfl⟩⟩
    · obtain ⟨j, rfl⟩ : ∃ j : Nat, q = j := ⟨q.toNat, by omega⟩
      obtain ⟨b, o, rfl, hcell⟩ := h4 j (by omega)
      have hb := hlo j
      rw [toNat_up] at hv
      have hd := val_drop l j (by omega)
      rw [← hv] at hd
      have HV := Lib.hid (And.intro hd (val_ge_drop l j (by omega)))
      clear hv hd h3 h4
      by_cases hbig : (18446744073709551615 - nth l j) / 1000000000 < n
      · go_wp2
        go_ret2
        have H := HV.out
        exact ⟨rfl, .inr ⟨by omega, rfl⟩⟩
      · go_wp2
        go_round
        case rel =>
          have H := HV.out
          refine ⟨(j : Int) - 1, n * 1000000000 + nth l j, rfl, by omega, by omega, by go_num, by omega, ?_⟩
          rw [show ((j : Int) - 1 + 1).toNat = j by omega]; omega
        case measure => simp [intOf]

end Go.Proofs.Ytdpiclmjdcjajaa
