/-
  The walk of combine: limbs below the base, two numbers of the same length, coefficients below the base, a result that is not negative and not longer.
-/
import Derived.Test.YtdpiclmjdcjajaaN12
namespace Go.Proofs.Ytdpiclmjdcjajaa
open Go.RowKit Num

theorem comb_step (L x y : List Nat) (k ℓ : Nat) (a b C C' : Int) (hk : k < L.length) (h : (val (L.take k) : Int) + pw k * C = a * val (x.take k) + b * val (y.take k))
    (ht : C + (a * nth x k + b * nth y k) = 1000000000 * C' + ℓ) : (val ((L.set k ℓ).take (k + 1)) : Int) + pw (k + 1) * C' = a * val (x.take (k + 1)) + b * val (y.take (k + 1)) := by
  rw [val_set_take L k ℓ hk, val_take_succ' x, val_take_succ' y, pw_succ]
  simp only [Int.natCast_add, Int.natCast_mul]
  have e : (pw k : Int) * (C + (a * nth x k + b * nth y k)) = pw k * (1000000000 * C' + ℓ) := by rw [ht]
  grind

theorem comb_end {L : List Nat} {n : Nat} {C S : Int} (hl : val L < pw n) (h : (val L : Int) + pw n * C = S) (h0 : 0 ≤ S) (h1 : S < pw n) : (val L : Int) = S := by
  have hp := pw_pos n
  rcases (show C ≤ -1 ∨ C = 0 ∨ 1 ≤ C from by omega) with hC | hC | hC
  · have : (pw n : Int) * C ≤ pw n * -1 := Int.mul_le_mul_of_nonneg_left hC (by omega)
    omega
  · rw [hC, Int.mul_zero] at h; omega
  · have : (pw n : Int) * 1 ≤ pw n * C := Int.mul_le_mul_of_nonneg_left hC (by omega)
    omega

theorem mul_abs {a : Int} {x : Nat} (h1 : -999999999 ≤ a) (h2 : a ≤ 999999999) (hx : x < 1000000000) : -999999998000000001 ≤ a * (x : Int) ∧ a * (x : Int) ≤ 999999998000000001 := by
  have e1 : a * (x : Int) ≤ 999999999 * (x : Int) := Int.mul_le_mul_of_nonneg_right h2 (by omega)
  have e2 : -999999999 * (x : Int) ≤ a * (x : Int) := Int.mul_le_mul_of_nonneg_right h1 (by omega)
  omega

theorem trunc_neg {T : Int} (h : T < 0) : 1000000000 * T.tdiv 1000000000 + T.tmod 1000000000 = T ∧ -1000000000 < T.tmod 1000000000 ∧ T.tmod 1000000000 ≤ 0 := by
  have e1 : T.tdiv 1000000000 = -((-T) / 1000000000) := by
    have := Int.neg_tdiv (a := -T) (b := 1000000000)
    rw [Int.neg_neg] at this
    rw [this, Int.tdiv_eq_ediv_of_nonneg (by omega)]
  have e2 : T.tmod 1000000000 = -((-T) % 1000000000) := by
    have := Int.neg_tmod (a := -T) (b := 1000000000)
    rw [Int.neg_neg] at this
    rw [this, Int.tmod_eq_emod_of_nonneg (by omega)]
  rw [e1, e2]; omega

set_option maxRecDepth 100000 in
set_option maxHeartbeats 4000000 in
theorem combine_any (u v : Value) (x y : List Nat) (a b : Int) (w : World) (hx : Lim w u x) (hy : Lim w v y) (xlo : Lo x) (ylo : Lo y) (hxn : x.length ≤ 100000) (hxy : y.length = x.length)
    (ha1 : -999999999 ≤ a) (ha2 : a ≤ 999999999) (hb1 : -999999999 ≤ b) (hb2 : b ≤ 999999999) (h0 : 0 ≤ a * val x + b * val y) (h1 : a * val x + b * val y < pw x.length) :
    Calls Try.prog 138 #[.int .i64 a, u, .int .i64 b, v] w (NtP (a * val x + b * val y).toNat w) := by
  obtain ⟨ax, capx, rfl, x1, x2, x3, x4⟩ := hx
  obtain ⟨ay, capy, rfl, y1, y2, y3, y4⟩ := hy
  rw [hxy] at y4 y1 ⊢
  have HR := Lib.hid (And.intro h0 (And.intro h1 hxy))
  clear h0 h1 hxy
  obtain ⟨i0, hi, hz0, hz1, hz2⟩ := info_parts Try.info58
  go_enter Try.func138, Try.ntmps138
  go_wp2_with (at_make; refine wpList_make_full _ rfl _ _ 55 rfl w.heap.size 58 i0 (.int .u32 0) 1 Try.underlying55 hi hz0 hz1 _ _ _ _ x.length rfl rfl (by omega) (by omega) ?b2 ?b3 (Nat.le_refl _) ?_)
  case b2 => rw [hz2]; omega
  case b3 => unfold maxLen; omega
  intro w0 hown0 hgrow0
  have hown : Own w0 w.heap.size w.heap.size x.length (List.replicate x.length 0) := own_made hown0 (by omega)
  have hbel : Below w.heap.size w w0 := (Below.refl _ _).grown hgrow0 (Nat.le_refl _) (fun k h => by cases h)
  clear hown0 hgrow0 hi hz0 hz1 hz2
  go_wp2
  go_loopw [10, 11, 12, 18] (fun c s11 s12 i wr => ∃ (k : Nat) (C : Int) (L : List Nat), k ≤ x.length ∧ i = .int .i64 k ∧ c = .int .i64 C ∧ -2000000000 ≤ C ∧ C ≤ 2000000000 ∧ Own wr w.heap.size w.heap.size x.length L ∧ (∀ j, j < k → nth L j < 1000000000) ∧
      (val (L.take k) : Int) + pw k * C = a * val (x.take k) + b * val (y.take k) ∧ Below w.heap.size w wr) (fun _ _ _ i _ => x.length - (intOf i).toNat)
  case atStart => exact ⟨0, 0, _, Nat.zero_le _, rfl, rfl, by omega, by omega, hown, fun j hj => by omega, by simp [val], hbel⟩
  case round =>
    obtain ⟨k, C, L, hk, rfl, rfl, hC1, hC2, hown, hlo2, hval, hbel⟩ := hrel
    by_cases hlt : k < x.length
    · obtain ⟨bx, ox, rfl, hcx⟩ := x4 k hlt
      obtain ⟨by', oy, rfl, hcy⟩ := y4 k hlt
      have hcx := (hbel.cell (World.block_lt_of_cell? w _ hcx)).trans hcx
      have hcy := (hbel.cell (World.block_lt_of_cell? w _ hcy)).trans hcy
      have hfr := hown.frozen k
      have hold := hown.cell k (by omega)
      have hpx := xlo k
      have hpy := ylo k
      obtain ⟨m1, m2⟩ := mul_abs ha1 ha2 hpx
      obtain ⟨m3, m4⟩ := mul_abs hb1 hb2 hpy
      have H := Lib.hid (And.intro x3 (And.intro x4 (And.intro y3 (And.intro y4 (And.intro xlo (And.intro ylo (And.intro hown (And.intro hlo2 (And.intro hval hbel)))))))))
      clear x3 x4 y3 y4 xlo ylo hown hlo2 hval hbel
      by_cases hT : 0 ≤ C + (a * (nth x k : Int) + b * (nth y k : Int))
      · have hTn : ¬ (C + (a * (nth x k : Int) + b * (nth y k : Int))) % 1000000000 < 0 := by omega
        go_wp2
        go_quiet (fail)
        go_wp2
        go_roundw
        case rel =>
          obtain ⟨x3, x4, y3, y4, xlo, ylo, hown, hlo2, hval, hbel⟩ := H.out
          skip
          refine ⟨k + 1, (C + (a * (nth x k : Int) + b * (nth y k : Int))) / 1000000000, L.set k (((C + (a * (nth x k : Int) + b * (nth y k : Int))) % 1000000000).toNat), by omega, by go_num, rfl, by omega, by omega, hown.store' k _ _ (by omega) (by omega), lo_set (by rw [hown.len]; omega) hlo2 (by omega), comb_step L x y k _ a b C _ (by rw [hown.len]; omega) hval (by omega), ?_⟩
          exact below_drewN (hbel.setCell (Nat.le_refl _) _) _
        case measure => simp [intOf]; omega
      · obtain ⟨t1, t2, t3⟩ := trunc_neg (T := (C + (a * (nth x k : Int) + b * (nth y k : Int)))) (by omega)
        have t4 : -2000000005 ≤ (C + (a * (nth x k : Int) + b * (nth y k : Int))).tdiv 1000000000 := by omega
        have t5 : (C + (a * (nth x k : Int) + b * (nth y k : Int))).tdiv 1000000000 ≤ 0 := by omega
        have HT := Lib.hid (And.intro t1 hT)
        clear t1 hT
        by_cases hz : (C + (a * (nth x k : Int) + b * (nth y k : Int))).tmod 1000000000 < 0
        · have t6 : -1999999999 ≤ (C + (a * (nth x k : Int) + b * (nth y k : Int))).tdiv 1000000000 := by have := HT.out; omega
          go_wp2
          go_quiet (fail)
          go_wp2
          go_roundw
          case rel =>
            obtain ⟨x3, x4, y3, y4, xlo, ylo, hown, hlo2, hval, hbel⟩ := H.out
            obtain ⟨t1, hT⟩ := HT.out
            refine ⟨k + 1, (C + (a * (nth x k : Int) + b * (nth y k : Int))).tdiv 1000000000 - 1, L.set k (((C + (a * (nth x k : Int) + b * (nth y k : Int))).tmod 1000000000 + 1000000000).toNat), by omega, by go_num, rfl, by omega, by omega, hown.store' k _ _ (by omega) (by omega), lo_set (by rw [hown.len]; omega) hlo2 (by omega), comb_step L x y k _ a b C _ (by rw [hown.len]; omega) hval (by omega), ?_⟩
            exact below_drewN (hbel.setCell (Nat.le_refl _) _) _
          case measure => simp [intOf]; omega
        · have hz2 : 0 ≤ (C + (a * (nth x k : Int) + b * (nth y k : Int))).tmod 1000000000 := by omega
          have t6 : -2000000000 ≤ (C + (a * (nth x k : Int) + b * (nth y k : Int))).tdiv 1000000000 := by have := HT.out; omega
          go_wp2
          go_quiet (fail)
          go_wp2
          go_roundw
          case rel =>
            obtain ⟨x3, x4, y3, y4, xlo, ylo, hown, hlo2, hval, hbel⟩ := H.out
            obtain ⟨t1, hT⟩ := HT.out
            refine ⟨k + 1, (C + (a * (nth x k : Int) + b * (nth y k : Int))).tdiv 1000000000, L.set k (((C + (a * (nth x k : Int) + b * (nth y k : Int))).tmod 1000000000).toNat), by omega, by go_num, rfl, by omega, by omega, hown.store' k _ _ (by omega) (by omega), lo_set (by rw [hown.len]; omega) hlo2 (by omega), comb_step L x y k _ a b C _ (by rw [hown.len]; omega) hval (by omega), ?_⟩
            exact below_drewN (hbel.setCell (Nat.le_refl _) _) _
          case measure => simp [intOf]; omega
    · obtain rfl : x.length = k := by omega
      have H := Lib.hid (And.intro x3 (And.intro x4 (And.intro y3 (And.intro y4 (And.intro xlo (And.intro ylo (And.intro hown (And.intro hlo2 (And.intro hval hbel)))))))))
      clear x3 x4 y3 y4 xlo ylo hown hlo2 hval hbel
      go_wp2_with fail
      obtain ⟨x3, x4, y3, y4, xlo, ylo, hown, hlo2, hval, hbel⟩ := H.out
      obtain ⟨h0, h1, hxy⟩ := HR.out
      have hlo3 : Lo L := lo_of fun i hi => hlo2 i (by rw [← hown.len]; exact hi)
      refine (trim_any _ _ _ hown.lim hlo3).mono ?_
      rintro e w' ⟨v', rfl, hnt, rfl⟩
      have e0 := val_lt hlo3
      rw [hown.len] at e0
      rw [show L.take x.length = L from List.take_of_length_le (by rw [hown.len]; exact Nat.le_refl _), List.take_length, show y.take x.length = y from List.take_of_length_le (by omega)] at hval
      have e1 := comb_end e0 hval h0 h1
      have e2 : val L = (a * val x + b * val y).toNat := by omega
      rw [e2] at hnt
      have HE := Lib.hid (And.intro hnt hbel)
      clear e0 e1 e2 hval hnt hbel hown hlo2 hlo3 h0 h1 hxy x3 x4 y3 y4 xlo ylo
      go_wp2
      go_ret
      obtain ⟨hnt, hbel⟩ := HE.out
      exact ⟨v', rfl, hnt, hbel⟩

end Go.Proofs.Ytdpiclmjdcjajaa
