/-
  The walk of multiply: limbs below the base, at most 1000000 places each.
-/
import Derived.Test.YtdpiclmjdcjajaaN6
namespace Go.Proofs.Ytdpiclmjdcjajaa
open Go.RowKit Num

theorem lo_take_all {L : List Nat} {k : Nat} (h : ∀ i, i < k → nth L i < 1000000000) (h0 : ∀ i, k ≤ i → nth L i = 0) : Lo L := fun i => by
  by_cases hi : i < k
  · exact h i hi
  · rw [h0 i (by omega)]; omega

set_option maxHeartbeats 2000000 in
theorem multiply_any (u v : Value) (x y : List Nat) (w : World) (hx : Lim w u x) (hy : Lim w v y) (xlo : Lo x) (ylo : Lo y) (xn : x.length ≤ 1000000) (yn : y.length ≤ 1000000) :
    Calls Try.prog 111 #[u, v] w (NtP (val x * val y) w) := by
  obtain ⟨ax, capx, rfl, x1, x2, x3, x4⟩ := hx
  obtain ⟨ay, capy, rfl, y1, y2, y3, y4⟩ := hy
  obtain ⟨i0, hi, hz0, hz1, hz2⟩ := info_parts Try.info58
  go_enter Try.func111, Try.ntmps111
  go_wp2_with (at_make; refine wpList_make_full _ rfl _ _ 55 rfl w.heap.size 58 i0 (.int .u32 0) 1 Try.underlying55 hi hz0 hz1 _ _ _ _ (x.length + y.length) rfl rfl (by omega) (by omega) ?b2 ?b3 (Nat.le_refl _) ?_)
  case b2 => rw [hz2]; omega
  case b3 => unfold maxLen; omega
  intro w0 hown0 hgrow0
  have hown : Own w0 w.heap.size w.heap.size (x.length + y.length) (List.replicate (x.length + y.length) 0) := own_made hown0 (by omega)
  have hbel : Below w.heap.size w w0 := (Below.refl _ _).grown hgrow0 (Nat.le_refl _) (fun k h => by cases h)
  clear hown0 hgrow0 hi hz0 hz1 hz2
  go_wp2
  go_loopw [7, 8, 17, 22] (fun s7 s8 i s22 wr => ∃ (k : Nat) (L : List Nat), k ≤ x.length ∧ i = .int .i64 k ∧ Own wr w.heap.size w.heap.size (x.length + y.length) L ∧ Lo L ∧ (∀ j, k + y.length ≤ j → nth L j = 0) ∧
      val (L.take (k + y.length)) = val (x.take k) * val y ∧ Below w.heap.size w wr) (fun _ _ i _ _ => x.length - (intOf i).toNat)
  case atStart => exact ⟨0, _, Nat.zero_le _, rfl, hown, lo_replicate _, fun j _ => nth_replicate _ j, by rw [val_zeros (fun i _ => by rw [nth_take, nth_replicate]; simp)]; simp [val], hbel⟩
  case round =>
    obtain ⟨k, L0, hk, rfl, hown, hlo, hz, hval, hbel⟩ := hrel
    obtain ⟨wo, rfl⟩ : ∃ wo : World, wo = wr := ⟨_, rfl⟩
    by_cases hlt : k < x.length
    · obtain ⟨b, o, rfl, hcellx⟩ := x4 k hlt
      have HO := Lib.hid (And.intro x3 (And.intro x4 (And.intro y3 (And.intro hown (And.intro hlo (And.intro hz (And.intro hval hbel)))))))
      have hp := xlo k
      clear x3 x4 y3 hz hval
      go_wp2
      go_loopw [7, 8, 22] (fun c s8 i wr => ∃ (j q : Nat) (L : List Nat), j ≤ y.length ∧ i = .int .i64 j ∧ c = .int .u64 q ∧ q < 1000000000 ∧ Own wr w.heap.size w.heap.size (x.length + y.length) L ∧ Lo L ∧ (∀ p, k + j ≤ p → nth L p = nth L0 p) ∧
          val (L.take (k + j)) + pw (k + j) * q = val (L0.take (k + j)) + pw k * (nth x k * val (y.take j)) ∧ Below w.heap.size w wr) (fun _ _ i _ => y.length - (intOf i).toNat)
      case atStart => exact ⟨0, 0, L0, Nat.zero_le _, rfl, rfl, by omega, hown, hlo, fun p _ => rfl, by simp [val], hbel⟩
      case round =>
        obtain ⟨j, q, L, hj, rfl, rfl, hq, hown, hlo, hz, hval, hbel⟩ := hrel
        by_cases hlt2 : j < y.length
        · obtain ⟨b2, o2, rfl, hcelly⟩ := y4 j hlt2
          have hcx := (hbel.cell (World.block_lt_of_cell? w _ hcellx)).trans hcellx
          have hcy := (hbel.cell (World.block_lt_of_cell? w _ hcelly)).trans hcelly
          have hfr := hown.frozen (k + j)
          have hold := hown.cell (k + j) (by omega)
          have HS := Lib.hid (mul_step L L0 y k j q (nth x k) (by rw [hown.len]; omega) hval (hz _ (Nat.le_refl _)))
          have hl := hlo (k + j)
          have hr := ylo j
          have hm := mul_bound hp hr hq hl
          have H := Lib.hid (And.intro y4 (And.intro xlo (And.intro ylo (And.intro hown (And.intro hlo (And.intro hz hbel))))))
          clear hval y4 xlo ylo hown hlo hz hbel hcelly
          go_wp2
          go_quiet (fail)
          go_wp2
          go_roundw
          case rel =>
            obtain ⟨y4, xlo, ylo, hown, hlo, hz, hbel⟩ := H.out
            refine ⟨j + 1, (q + (nth L (k + j) + nth x k * nth y j)) / 1000000000, L.set (k + j) ((q + (nth L (k + j) + nth x k * nth y j)) % 1000000000), by omega, by go_num, by go_num, by omega, ?_, lo_set_drop (by rw [hown.len]; omega) hlo (by omega), ?_, HS.out, ?_⟩
            · exact hown.store' (k + j) _ _ (by simp) (by omega)
            · intro p hp
              rw [nth_set _ _ _ _ (by rw [hown.len]; omega), if_neg (by omega)]
              exact hz p (by omega)
            · exact below_drewN (hbel.setCell (Nat.le_refl _) _) _
          case measure => simp [intOf]; omega
        · obtain rfl : y.length = j := by omega
          obtain ⟨x3, x4, y3, hown0, hlo0, hz0, hval0, hbel0⟩ := HO.out
          have hfr := hown.frozen (k + y.length)
          have hold := hown.cell (k + y.length) (by omega)
          have hlen2 : k + y.length < L.length := by rw [hown.len]; omega
          have HS := Lib.hid (mul_end L L0 x y k q hlen2 hval hval0)
          have H := Lib.hid (And.intro xlo (And.intro ylo (And.intro hown (And.intro hlo (And.intro hz (And.intro hbel hlen2))))))
          clear x3 x4 y3 hown0 hlo0 hval0 hbel0 y4 xlo ylo hown hlo hz hbel hval hcellx hlen2
          have HZ := Lib.hid hz0
          clear hz0
          go_wp2
          go_roundw
          case rel =>
            obtain ⟨xlo, ylo, hown, hlo, hz, hbel, hlen2⟩ := H.out
            refine ⟨k + 1, L.set (k + y.length) q, by omega, by go_num, hown.store' _ _ _ rfl (by omega), lo_set_drop hlen2 hlo hq, ?_, ?_, hbel.setCell (Nat.le_refl _) _⟩
            · intro p hp
              rw [nth_set _ _ _ _ hlen2, if_neg (by omega), hz p (by omega)]
              exact HZ.out p (by omega)
            · rw [show k + 1 + y.length = k + y.length + 1 by omega]; exact HS.out
          case measure => simp [intOf]; omega
    · obtain rfl : x.length = k := by omega
      have H := Lib.hid (And.intro x3 (And.intro x4 (And.intro y3 (And.intro y4 (And.intro xlo (And.intro ylo (And.intro hown (And.intro hlo (And.intro hz (And.intro hval hbel))))))))))
      clear hval x3 x4 y3 y4 xlo ylo hown hlo hz hbel
      go_wp2_with fail
      obtain ⟨x3, x4, y3, y4, xlo, ylo, hown, hlo, hz, hval, hbel⟩ := H.out
      refine (trim_any _ _ _ hown.lim hlo).mono ?_
      rintro e w' ⟨v', rfl, hnt, rfl⟩
      rw [← hown.len, List.take_length, List.take_length] at hval
      rw [hval] at hnt
      have HE := Lib.hid (And.intro hnt hbel)
      clear hval hnt hbel hown hlo hz
      go_wp2
      go_ret
      obtain ⟨hnt, hbel⟩ := HE.out
      exact ⟨v', rfl, hnt, hbel⟩

end Go.Proofs.Ytdpiclmjdcjajaa
