/-
  The walks of add and subtract: limbs below the base, at most 1000000 places.
-/
import Derived.Test.YtdpiclmjdcjajaaN4
namespace Go.Proofs.Ytdpiclmjdcjajaa
open Go.RowKit Num

set_option maxHeartbeats 1000000 in
theorem add_more (u v : Value) (x y : List Nat) (w : World) (hx : Lim w u x) (hy : Lim w v y) (xlo : Lo x) (ylo : Lo y) (xn : x.length ≤ 1000000) (hsw : ¬ x.length < y.length) :
    Calls Try.prog 112 #[u, v] w (NtP (val x + val y) w) := by
  obtain ⟨ax, capx, rfl, x1, x2, x3, x4⟩ := hx
  obtain ⟨ay, capy, rfl, y1, y2, y3, y4⟩ := hy
  obtain ⟨i0, hi, hz0, hz1, hz2⟩ := info_parts Try.info58
  go_enter Try.func112, Try.ntmps112
  go_wp2_with (at_make; refine wpList_make_full _ rfl _ _ 55 rfl w.heap.size 58 i0 (.int .u32 0) 1 Try.underlying55 hi hz0 hz1 _ _ _ _ (x.length + 1) rfl rfl (by omega) (by omega) ?b2 ?b3 (Nat.le_refl _) ?_)
  case b2 => rw [hz2]; omega
  case b3 => unfold maxLen; omega
  intro w0 hown0 hgrow0
  have hown : Own w0 w.heap.size w.heap.size (x.length + 1) (List.replicate (x.length + 1) 0) := own_made hown0 (by omega)
  have hbel : Below w.heap.size w w0 := (Below.refl _ _).grown hgrow0 (Nat.le_refl _) (fun k h => by cases h)
  clear hown0 hgrow0 hi hz0 hz1 hz2
  go_wp2
  go_loopw [6, 8, 22] (fun c l i wr => ∃ (k q : Nat) (L : List Nat), k ≤ x.length ∧ i = .int .i64 k ∧ c = .int .u32 q ∧ q ≤ 1 ∧ Own wr w.heap.size w.heap.size (x.length + 1) L ∧ (∀ j, j < k → nth L j < 1000000000) ∧
      val (L.take k) + pw k * q = val (x.take k) + val (y.take k) ∧ Below w.heap.size w wr) (fun _ _ i _ => x.length - (intOf i).toNat)
  case atStart => exact ⟨0, 0, _, Nat.zero_le _, rfl, rfl, by omega, hown, fun j hj => by omega, by simp [val], hbel⟩
  case round =>
    obtain ⟨k, q, L, hk, rfl, rfl, hq, hown, hlo2, hval, hbel⟩ := hrel
    by_cases hlt : k < x.length
    · obtain ⟨b, o, rfl, hcell⟩ := x4 k hlt
      have hcell := (hbel.cell (World.block_lt_of_cell? w _ hcell)).trans hcell
      have HS := Lib.hid (add_step L x y k q (by rw [hown.len]; omega) hval)
      have hfr := hown.frozen k
      have hold := hown.cell k (by omega)
      have hp := xlo k
      have hr := ylo k
      by_cases hlt2 : k < y.length
      · obtain ⟨b2, o2, rfl, hcell2⟩ := y4 k hlt2
        have hcell2 := (hbel.cell (World.block_lt_of_cell? w _ hcell2)).trans hcell2
        have H := Lib.hid (And.intro x3 (And.intro x4 (And.intro y3 (And.intro y4 (And.intro xlo (And.intro ylo (And.intro hown (And.intro hlo2 hbel))))))))
        clear hval x3 x4 y3 y4 xlo ylo hown hlo2 hbel
        go_wp2
        go_roundw
        case rel =>
          obtain ⟨x3, x4, y3, y4, xlo, ylo, hown, hlo2, hbel⟩ := H.out
          refine ⟨k + 1, (nth x k + q + nth y k) / 1000000000, L.set k ((nth x k + q + nth y k) % 1000000000), by omega, by go_num, by go_num, by omega, ?_, lo_set (by rw [hown.len]; omega) hlo2 (by omega), HS.out, hbel.setCell (Nat.le_refl _) _⟩
          have := hown.store k ((nth x k + q + nth y k) % 1000000000) (by omega)
          simpa using this
        case measure => simp [intOf]; omega
      · have hr0 : nth y k = 0 := nth_out (by omega)
        have HR := Lib.hid hr0
        have H := Lib.hid (And.intro x3 (And.intro x4 (And.intro y3 (And.intro y4 (And.intro xlo (And.intro ylo (And.intro hown (And.intro hlo2 hbel))))))))
        clear hval x3 x4 y3 y4 xlo ylo hown hlo2 hbel hr hr0
        go_wp2
        go_roundw
        case rel =>
          obtain ⟨x3, x4, y3, y4, xlo, ylo, hown, hlo2, hbel⟩ := H.out
          have HS := HS.out
          rw [HR.out, Nat.add_zero] at HS
          refine ⟨k + 1, (nth x k + q) / 1000000000, L.set k ((nth x k + q) % 1000000000), by omega, by go_num, by go_num, by omega, ?_, lo_set (by rw [hown.len]; omega) hlo2 (by omega), HS, hbel.setCell (Nat.le_refl _) _⟩
          have := hown.store k ((nth x k + q) % 1000000000) (by omega)
          simpa using this
        case measure => simp [intOf]; omega
    · obtain rfl : x.length = k := by omega
      have hfr := hown.frozen x.length
      have hold := hown.cell x.length (by omega)
      have H := Lib.hid (And.intro x3 (And.intro x4 (And.intro y3 (And.intro y4 (And.intro xlo (And.intro ylo (And.intro hown (And.intro hlo2 (And.intro hval hbel)))))))))
      clear hval x3 x4 y3 y4 xlo ylo hown hlo2 hbel
      go_wp2_with fail
      obtain ⟨x3, x4, y3, y4, xlo, ylo, hown, hlo2, hval, hbel⟩ := H.out
      have hown2 := hown.store x.length q (by omega)
      refine (trim_any _ _ _ hown2.lim (lo_of fun i hi => ?_)).mono ?_
      · rw [hown2.len] at hi
        exact lo_set (by rw [hown.len]; omega) hlo2 (by omega) i hi
      rintro e w' ⟨v', rfl, hnt, rfl⟩
      have e1 := val_set_take L x.length q (by rw [hown.len]; omega)
      rw [show x.length + 1 = (L.set x.length q).length by rw [hown2.len], List.take_length, hval, List.take_length, List.take_of_length_le (by omega)] at e1
      have HE := Lib.hid (And.intro e1 (And.intro hnt (And.intro hval hbel)))
      clear e1 hval hnt hbel hown hown2 hlo2
      go_wp2
      go_ret
      obtain ⟨e1, hnt, hval, hbel⟩ := HE.out
      refine ⟨v', rfl, ?_, hbel.setCell (Nat.le_refl _) _⟩
      rw [e1] at hnt
      exact hnt

set_option maxHeartbeats 1000000 in
theorem add_less (u v : Value) (x y : List Nat) (w : World) (hx : Lim w u x) (hy : Lim w v y) (xlo : Lo x) (ylo : Lo y) (yn : y.length ≤ 1000000) (hsw : x.length < y.length) :
    Calls Try.prog 112 #[u, v] w (NtP (val x + val y) w) := by
  obtain ⟨ax, capx, rfl, x1, x2, x3, x4⟩ := hx
  obtain ⟨ay, capy, rfl, y1, y2, y3, y4⟩ := hy
  obtain ⟨i0, hi, hz0, hz1, hz2⟩ := info_parts Try.info58
  go_enter Try.func112, Try.ntmps112
  go_wp2_with (at_make; refine wpList_make_full _ rfl _ _ 55 rfl w.heap.size 58 i0 (.int .u32 0) 1 Try.underlying55 hi hz0 hz1 _ _ _ _ (y.length + 1) rfl rfl (by omega) (by omega) ?b2 ?b3 (Nat.le_refl _) ?_)
  case b2 => rw [hz2]; omega
  case b3 => unfold maxLen; omega
  intro w0 hown0 hgrow0
  have hown : Own w0 w.heap.size w.heap.size (y.length + 1) (List.replicate (y.length + 1) 0) := own_made hown0 (by omega)
  have hbel : Below w.heap.size w w0 := (Below.refl _ _).grown hgrow0 (Nat.le_refl _) (fun k h => by cases h)
  clear hown0 hgrow0 hi hz0 hz1 hz2
  go_wp2
  go_loopw [6, 8, 22] (fun c l i wr => ∃ (k q : Nat) (L : List Nat), k ≤ y.length ∧ i = .int .i64 k ∧ c = .int .u32 q ∧ q ≤ 1 ∧ Own wr w.heap.size w.heap.size (y.length + 1) L ∧ (∀ j, j < k → nth L j < 1000000000) ∧
      val (L.take k) + pw k * q = val (y.take k) + val (x.take k) ∧ Below w.heap.size w wr) (fun _ _ i _ => y.length - (intOf i).toNat)
  case atStart => exact ⟨0, 0, _, Nat.zero_le _, rfl, rfl, by omega, hown, fun j hj => by omega, by simp [val], hbel⟩
  case round =>
    obtain ⟨k, q, L, hk, rfl, rfl, hq, hown, hlo2, hval, hbel⟩ := hrel
    by_cases hlt : k < y.length
    · obtain ⟨b, o, rfl, hcell⟩ := y4 k hlt
      have hcell := (hbel.cell (World.block_lt_of_cell? w _ hcell)).trans hcell
      have HS := Lib.hid (add_step L y x k q (by rw [hown.len]; omega) hval)
      have hfr := hown.frozen k
      have hold := hown.cell k (by omega)
      have hp := ylo k
      have hr := xlo k
      by_cases hlt2 : k < x.length
      · obtain ⟨b2, o2, rfl, hcell2⟩ := x4 k hlt2
        have hcell2 := (hbel.cell (World.block_lt_of_cell? w _ hcell2)).trans hcell2
        have H := Lib.hid (And.intro x3 (And.intro x4 (And.intro y3 (And.intro y4 (And.intro xlo (And.intro ylo (And.intro hown (And.intro hlo2 hbel))))))))
        clear hval x3 x4 y3 y4 xlo ylo hown hlo2 hbel
        go_wp2
        go_roundw
        case rel =>
          obtain ⟨x3, x4, y3, y4, xlo, ylo, hown, hlo2, hbel⟩ := H.out
          refine ⟨k + 1, (nth y k + q + nth x k) / 1000000000, L.set k ((nth y k + q + nth x k) % 1000000000), by omega, by go_num, by go_num, by omega, ?_, lo_set (by rw [hown.len]; omega) hlo2 (by omega), HS.out, hbel.setCell (Nat.le_refl _) _⟩
          have := hown.store k ((nth y k + q + nth x k) % 1000000000) (by omega)
          simpa using this
        case measure => simp [intOf]; omega
      · have hr0 : nth x k = 0 := nth_out (by omega)
        have HR := Lib.hid hr0
        have H := Lib.hid (And.intro x3 (And.intro x4 (And.intro y3 (And.intro y4 (And.intro xlo (And.intro ylo (And.intro hown (And.intro hlo2 hbel))))))))
        clear hval x3 x4 y3 y4 xlo ylo hown hlo2 hbel hr hr0
        go_wp2
        go_roundw
        case rel =>
          obtain ⟨x3, x4, y3, y4, xlo, ylo, hown, hlo2, hbel⟩ := H.out
          have HS := HS.out
          rw [HR.out, Nat.add_zero] at HS
          refine ⟨k + 1, (nth y k + q) / 1000000000, L.set k ((nth y k + q) % 1000000000), by omega, by go_num, by go_num, by omega, ?_, lo_set (by rw [hown.len]; omega) hlo2 (by omega), HS, hbel.setCell (Nat.le_refl _) _⟩
          have := hown.store k ((nth y k + q) % 1000000000) (by omega)
          simpa using this
        case measure => simp [intOf]; omega
    · obtain rfl : y.length = k := by omega
      have hfr := hown.frozen y.length
      have hold := hown.cell y.length (by omega)
      have H := Lib.hid (And.intro x3 (And.intro x4 (And.intro y3 (And.intro y4 (And.intro xlo (And.intro ylo (And.intro hown (And.intro hlo2 (And.intro hval hbel)))))))))
      clear hval x3 x4 y3 y4 xlo ylo hown hlo2 hbel
      go_wp2_with fail
      obtain ⟨x3, x4, y3, y4, xlo, ylo, hown, hlo2, hval, hbel⟩ := H.out
      have hown2 := hown.store y.length q (by omega)
      refine (trim_any _ _ _ hown2.lim (lo_of fun i hi => ?_)).mono ?_
      · rw [hown2.len] at hi
        exact lo_set (by rw [hown.len]; omega) hlo2 (by omega) i hi
      rintro e w' ⟨v', rfl, hnt, rfl⟩
      have e1 := val_set_take L y.length q (by rw [hown.len]; omega)
      rw [show y.length + 1 = (L.set y.length q).length by rw [hown2.len], List.take_length, hval, List.take_length, List.take_of_length_le (by omega)] at e1
      have HE := Lib.hid (And.intro e1 (And.intro hnt (And.intro hval hbel)))
      clear e1 hval hnt hbel hown hown2 hlo2
      go_wp2
      go_ret
      obtain ⟨e1, hnt, hval, hbel⟩ := HE.out
      refine ⟨v', rfl, ?_, hbel.setCell (Nat.le_refl _) _⟩
      rw [e1] at hnt
      rw [Nat.add_comm]; exact hnt

theorem add_any (u v : Value) (x y : List Nat) (w : World) (hx : Lim w u x) (hy : Lim w v y) (xlo : Lo x) (ylo : Lo y) (xn : x.length ≤ 1000000) (yn : y.length ≤ 1000000) :
    Calls Try.prog 112 #[u, v] w (NtP (val x + val y) w) := by
  by_cases h : x.length < y.length
  · exact add_less u v x y w hx hy xlo ylo yn h
  · exact add_more u v x y w hx hy xlo ylo xn h

end Go.Proofs.Ytdpiclmjdcjajaa
