/-
  The walk of subtract: limbs below the base, at most 1000000 places, the second number is not longer and not greater.
-/
import Derived.Test.YtdpiclmjdcjajaaN5
namespace Go.Proofs.Ytdpiclmjdcjajaa
open Go.RowKit Num

set_option maxHeartbeats 2000000 in
theorem subtract_any (u v : Value) (x y : List Nat) (w : World) (hx : Lim w u x) (hy : Lim w v y) (xlo : Lo x) (ylo : Lo y) (xn : x.length ≤ 1000000) (hxy : y.length ≤ x.length) (hle : val y ≤ val x) :
    Calls Try.prog 114 #[u, v] w (NtP (val x - val y) w) := by
  obtain ⟨ax, capx, rfl, x1, x2, x3, x4⟩ := hx
  obtain ⟨ay, capy, rfl, y1, y2, y3, y4⟩ := hy
  obtain ⟨i0, hi, hz0, hz1, hz2⟩ := info_parts Try.info58
  have HXY := Lib.hid (And.intro hxy hle)
  clear hxy hle
  go_enter Try.func114, Try.ntmps114
  go_wp2_with (at_make; refine wpList_make_full _ rfl _ _ 55 rfl w.heap.size 58 i0 (.int .u32 0) 1 Try.underlying55 hi hz0 hz1 _ _ _ _ x.length rfl rfl (by omega) (by omega) ?b2 ?b3 (Nat.le_refl _) ?_)
  case b2 => rw [hz2]; omega
  case b3 => unfold maxLen; omega
  intro w0 hown0 hgrow0
  have hown : Own w0 w.heap.size w.heap.size x.length (List.replicate x.length 0) := own_made hown0 (by omega)
  have hbel : Below w.heap.size w w0 := (Below.refl _ _).grown hgrow0 (Nat.le_refl _) (fun k h => by cases h)
  clear hown0 hgrow0 hi hz0 hz1 hz2
  go_wp2
  go_loopw [6, 8, 14] (fun c l i wr => ∃ (k q : Nat) (L : List Nat), k ≤ x.length ∧ i = .int .i64 k ∧ c = .int .u32 q ∧ q ≤ 1 ∧ Own wr w.heap.size w.heap.size x.length L ∧ (∀ j, j < k → nth L j < 1000000000) ∧
      val (L.take k) + val (y.take k) = val (x.take k) + pw k * q ∧ Below w.heap.size w wr) (fun _ _ i _ => x.length - (intOf i).toNat)
  case atStart => exact ⟨0, 0, _, Nat.zero_le _, rfl, rfl, by omega, hown, fun j hj => by omega, by simp [val], hbel⟩
  case round =>
    obtain ⟨k, q, L, hk, rfl, rfl, hq, hown, hlo2, hval, hbel⟩ := hrel
    by_cases hlt : k < x.length
    · obtain ⟨b, o, rfl, hcell⟩ := x4 k hlt
      have hcell := (hbel.cell (World.block_lt_of_cell? w _ hcell)).trans hcell
      have hfr := hown.frozen k
      have hold := hown.cell k (by omega)
      have hp := xlo k
      have hr := ylo k
      by_cases hlt2 : k < y.length
      · obtain ⟨b2, o2, rfl, hcell2⟩ := y4 k hlt2
        have hcell2 := (hbel.cell (World.block_lt_of_cell? w _ hcell2)).trans hcell2
        have H := Lib.hid (And.intro x3 (And.intro x4 (And.intro y3 (And.intro y4 (And.intro xlo (And.intro ylo (And.intro hown (And.intro hlo2 (And.intro hbel hval)))))))))
        clear hval x3 x4 y3 y4 xlo ylo hown hlo2 hbel
        by_cases hb : nth x k < q + nth y k
        · go_wp2
          go_roundw
          case rel =>
            obtain ⟨x3, x4, y3, y4, xlo, ylo, hown, hlo2, hbel, hval⟩ := H.out
            skip
            refine ⟨k + 1, 1, L.set k (nth x k + 1000000000 - (q + nth y k)), by omega, by go_num, rfl, by omega, hown.store' k _ _ (by omega) (by omega), lo_set (by rw [hown.len]; omega) hlo2 (by omega), sub_step L x y k q 1 _ (by rw [hown.len]; omega) hval (by omega), hbel.setCell (Nat.le_refl _) _⟩
          case measure => simp [intOf]; omega
        · go_wp2
          go_roundw
          case rel =>
            obtain ⟨x3, x4, y3, y4, xlo, ylo, hown, hlo2, hbel, hval⟩ := H.out
            skip
            refine ⟨k + 1, 0, L.set k (nth x k - (q + nth y k)), by omega, by go_num, rfl, by omega, hown.store' k _ _ (by omega) (by omega), lo_set (by rw [hown.len]; omega) hlo2 (by omega), sub_step L x y k q 0 _ (by rw [hown.len]; omega) hval (by omega), hbel.setCell (Nat.le_refl _) _⟩
          case measure => simp [intOf]; omega
      · have hr0 : nth y k = 0 := nth_out (by omega)
        have HR := Lib.hid hr0
        clear hr hr0
        have H := Lib.hid (And.intro x3 (And.intro x4 (And.intro y3 (And.intro y4 (And.intro xlo (And.intro ylo (And.intro hown (And.intro hlo2 (And.intro hbel hval)))))))))
        clear hval x3 x4 y3 y4 xlo ylo hown hlo2 hbel
        by_cases hb : nth x k < q
        · go_wp2
          go_roundw
          case rel =>
            obtain ⟨x3, x4, y3, y4, xlo, ylo, hown, hlo2, hbel, hval⟩ := H.out
            have hr0 := HR.out
            refine ⟨k + 1, 1, L.set k (nth x k + 1000000000 - (q)), by omega, by go_num, rfl, by omega, hown.store' k _ _ (by omega) (by omega), lo_set (by rw [hown.len]; omega) hlo2 (by omega), sub_step L x y k q 1 _ (by rw [hown.len]; omega) hval (by omega), hbel.setCell (Nat.le_refl _) _⟩
          case measure => simp [intOf]; omega
        · go_wp2
          go_roundw
          case rel =>
            obtain ⟨x3, x4, y3, y4, xlo, ylo, hown, hlo2, hbel, hval⟩ := H.out
            have hr0 := HR.out
            refine ⟨k + 1, 0, L.set k (nth x k - (q)), by omega, by go_num, rfl, by omega, hown.store' k _ _ (by omega) (by omega), lo_set (by rw [hown.len]; omega) hlo2 (by omega), sub_step L x y k q 0 _ (by rw [hown.len]; omega) hval (by omega), hbel.setCell (Nat.le_refl _) _⟩
          case measure => simp [intOf]; omega
    · obtain rfl : x.length = k := by omega
      have H := Lib.hid (And.intro x3 (And.intro x4 (And.intro y3 (And.intro y4 (And.intro xlo (And.intro ylo (And.intro hown (And.intro hlo2 (And.intro hval hbel)))))))))
      clear hval x3 x4 y3 y4 xlo ylo hown hlo2 hbel
      go_wp2_with fail
      obtain ⟨x3, x4, y3, y4, xlo, ylo, hown, hlo2, hval, hbel⟩ := H.out
      have hlo3 : Lo L := lo_of fun i hi => hlo2 i (by rw [← hown.len]; exact hi)
      refine (trim_any _ _ _ hown.lim hlo3).mono ?_
      rintro e w' ⟨v', rfl, hnt, rfl⟩
      obtain ⟨hxy, hle⟩ := HXY.out
      have e0 := val_lt hlo3
      rw [hown.len] at e0
      rw [show x.length = L.length by rw [hown.len], List.take_length, hown.len, List.take_of_length_le hxy, List.take_length] at hval
      have e1 : val L = val x - val y := by
        rcases Nat.lt_or_ge q 1 with h | h
        · obtain rfl : q = 0 := by omega
          omega
        · obtain rfl : q = 1 := by omega
          omega
      rw [e1] at hnt
      have HE := Lib.hid (And.intro hnt hbel)
      clear e1 e0 hval hnt hbel hown hlo2 hlo3 hxy hle
      go_wp2
      go_ret
      obtain ⟨hnt, hbel⟩ := HE.out
      exact ⟨v', rfl, hnt, hbel⟩

end Go.Proofs.Ytdpiclmjdcjajaa
