/-
  The walks of multiplyByLimb and divideByLimb: limbs below the base, at most 1000000 places.
-/
import Derived.Test.YtdpiclmjdcjajaaN3
namespace Go.Proofs.Ytdpiclmjdcjajaa
open Go.RowKit Num

/-- An own row of len(x) + 1 limbs that denotes the product. -/
def MulLimbP (n x : Nat) (w : World) (e : Ending) (w' : World) : Prop :=
  ∃ g L, e = .returned (.slice (some ⟨g, 0, none⟩) n n) ∧ Own w' w.heap.size g n L ∧ Lo L ∧ val L = x ∧ Below w.heap.size w w'

set_option maxHeartbeats 1000000 in
theorem multiplyByLimb_any (v : Value) (l : List Nat) (m : Nat) (w : World) (h : Lim w v l) (hlo : Lo l) (hn : l.length ≤ 1000000) (hm : m < 1000000000) :
    Calls Try.prog 124 #[v, .int .u32 m] w (MulLimbP (l.length + 1) (m * val l) w) := by
  obtain ⟨a, cap, rfl, h1, h2, h3, h4⟩ := h
  obtain ⟨i0, hi, hz0, hz1, hz2⟩ := info_parts Try.info58
  go_enter Try.func124, Try.ntmps124
  go_wp2_with (at_make; refine wpList_make_full _ rfl _ _ 55 rfl w.heap.size 58 i0 (.int .u32 0) 1 Try.underlying55 hi hz0 hz1 _ _ _ _ (l.length + 1) rfl rfl (by omega) (by omega) ?b2 ?b3 (Nat.le_refl _) ?_)
  case b2 => rw [hz2]; omega
  case b3 => unfold maxLen; omega
  intro w0 hown0 hgrow0
  have hown : Own w0 w.heap.size w.heap.size (l.length + 1) (List.replicate (l.length + 1) 0) := own_made hown0 (by omega)
  have hbel : Below w.heap.size w w0 := (Below.refl _ _).grown hgrow0 (Nat.le_refl _) (fun k h => by cases h)
  clear hown0 hgrow0 hi hz0 hz1 hz2
  go_wp2
  go_loopw [6, 14] (fun c i wr => ∃ (k q : Nat) (L : List Nat), k ≤ l.length ∧ i = .int .i64 k ∧ c = .int .u64 q ∧ q < 1000000000 ∧ Own wr w.heap.size w.heap.size (l.length + 1) L ∧ (∀ j, j < k → nth L j < 1000000000) ∧
      val (L.take k) + pw k * q = m * val (l.take k) ∧ Below w.heap.size w wr) (fun _ i _ => l.length - (intOf i).toNat)
  case atStart => exact ⟨0, 0, _, Nat.zero_le _, rfl, rfl, by omega, hown, fun j hj => by omega, by simp [val], hbel⟩
  case round =>
    obtain ⟨k, q, L, hk, rfl, rfl, hq, hown, hlo2, hval, hbel⟩ := hrel
    by_cases hlt : k < l.length
    · obtain ⟨b, o, rfl, hcell⟩ := h4 k hlt
      have hcell := (hbel.cell (World.block_lt_of_cell? w _ hcell)).trans hcell
      have HS := Lib.hid (mulimb_step L l k q m (by rw [hown.len]; omega) hval)
      have hfr := hown.frozen k
      have hold := hown.cell k (by omega)
      have hx := hlo k
      have hp : nth l k * m ≤ 999999999 * 999999999 := Nat.mul_le_mul (by omega) (by omega)
      have hp2 : ((nth l k : Nat) : Int) * (m : Int) ≤ 999999998000000001 := by
        have : ((nth l k * m : Nat) : Int) ≤ 999999998000000001 := by omega
        rwa [Int.natCast_mul] at this
      have hp3 : 0 ≤ ((nth l k : Nat) : Int) * (m : Int) := Int.mul_nonneg (by omega) (by omega)
      have H := Lib.hid (And.intro h3 (And.intro h4 (And.intro hown (And.intro hlo2 (And.intro hlo hbel)))))
      clear hval h3 h4 hown hlo hlo2 hbel
      go_wp2
      go_roundw
      case rel =>
        obtain ⟨h3, h4, hown, hlo2, hlo, hbel⟩ := H.out
        refine ⟨k + 1, (q + nth l k * m) / 1000000000, _, by omega, by go_num, by go_num, by omega, ?_, lo_set (by rw [hown.len]; omega) hlo2 (by omega), HS.out, hbel.setCell (Nat.le_refl _) _⟩
        have := hown.store k ((q + nth l k * m) % 1000000000) (by omega)
        simpa using this
      case measure => simp [intOf]; omega
    · obtain rfl : l.length = k := by omega
      have hfr := hown.frozen l.length
      have hold := hown.cell l.length (by omega)
      have hl2 := hown.len
      have HL := Lib.hid hl2
      have H := Lib.hid (And.intro h3 (And.intro h4 (And.intro hown (And.intro hlo2 (And.intro hlo (And.intro hval hbel))))))
      clear hval h3 h4 hown hlo hlo2 hbel hl2
      go_wp2
      go_ret
      obtain ⟨h3, h4, hown, hlo2, hlo, hval, hbel⟩ := H.out
      have hown2 := hown.store l.length q (by omega)
      refine ⟨_, _, rfl, hown2, lo_of fun i hi => ?_, ?_, hbel.setCell (Nat.le_refl _) _⟩
      · rw [hown2.len] at hi
        exact lo_set (by rw [hown.len]; omega) hlo2 hq i hi
      · have e1 := val_set_take L l.length q (by rw [hown.len]; omega)
        rw [show l.length + 1 = (L.set l.length q).length by rw [hown2.len], List.take_length, hval, List.take_length] at e1
        exact e1

/-- The quotient in memory and the rest. -/
def DivLimbP (x c : Nat) (w : World) (e : Ending) (w' : World) : Prop :=
  ∃ v, e = .returned (.tuple #[v, .int .u32 ((x % c : Nat) : Int)]) ∧ Nt w' v (x / c) ∧ Below w.heap.size w w'

set_option maxHeartbeats 1000000 in
theorem divideByLimb_any (v : Value) (l : List Nat) (c : Nat) (w : World) (h : Lim w v l) (hlo : Lo l) (hn : l.length ≤ 1000000) (hc0 : 0 < c) (hc1 : c < 1000000000) :
    Calls Try.prog 123 #[v, .int .u32 c] w (DivLimbP (val l) c w) := by
  obtain ⟨a, cap, rfl, h1, h2, h3, h4⟩ := h
  obtain ⟨i0, hi, hz0, hz1, hz2⟩ := info_parts Try.info58
  go_enter Try.func123, Try.ntmps123
  go_wp2_with (at_make; refine wpList_make_full _ rfl _ _ 55 rfl w.heap.size 58 i0 (.int .u32 0) 1 Try.underlying55 hi hz0 hz1 _ _ _ _ l.length rfl rfl (by omega) (by omega) ?b2 ?b3 (Nat.le_refl _) ?_)
  case b2 => rw [hz2]; omega
  case b3 => unfold maxLen; omega
  intro w0 hown0 hgrow0
  have hown : Own w0 w.heap.size w.heap.size l.length (List.replicate l.length 0) := own_made hown0 (by omega)
  have hbel : Below w.heap.size w w0 := (Below.refl _ _).grown hgrow0 (Nat.le_refl _) (fun k h => by cases h)
  clear hown0 hgrow0 hi hz0 hz1 hz2
  go_wp2
  go_loopw [6, 7] (fun s i wr => ∃ (q : Int) (r : Nat) (L : List Nat), i = .int .i64 q ∧ -1 ≤ q ∧ q < l.length ∧ s = .int .u64 r ∧ r < c ∧ Own wr w.heap.size w.heap.size l.length L ∧ Lo L ∧
      val (l.drop (q + 1).toNat) = c * val (L.drop (q + 1).toNat) + r ∧ Below w.heap.size w wr) (fun _ i _ => (intOf i + 1).toNat)
  case atStart => exact ⟨_, 0, _, rfl, by omega, by omega, rfl, by omega, hown, lo_replicate _, by rw [List.drop_of_length_le (by omega), List.drop_of_length_le (by simp)]; simp [val], hbel⟩
  case round =>
    obtain ⟨q, r, L, rfl, g1, g2, rfl, hr, hown, hlo2, hval, hbel⟩ := hrel
    by_cases hq : q = -1
    · subst hq
      have H := Lib.hid (And.intro h3 (And.intro h4 (And.intro hown (And.intro hlo2 (And.intro hlo (And.intro hval hbel))))))
      clear hval h3 h4 hown hlo hlo2 hbel
      go_wp2_with fail
      obtain ⟨h3, h4, hown, hlo2, hlo, hval, hbel⟩ := H.out
      refine (trim_any _ _ _ hown.lim hlo2).mono ?_
      rintro e w' ⟨v', rfl, hnt, rfl⟩
      have e1 : val l = c * val L + r := by simpa using hval
      have e2 : val l / c = val L := by rw [e1, Nat.mul_add_div hc0, Nat.div_eq_of_lt hr, Nat.add_zero]
      have e3 : val l % c = r := by rw [e1, Nat.mul_add_mod, Nat.mod_eq_of_lt hr]
      have HE := Lib.hid (And.intro e1 (And.intro e2 (And.intro e3 (And.intro hnt (And.intro hval hbel)))))
      clear e1 e2 e3 hval hnt hbel hlo hlo2 hown
      go_wp2
      go_ret2
      obtain ⟨e1, e2, e3, hnt, hval, hbel⟩ := HE.out
      exact ⟨v', by rw [e3]; rfl, by rw [e2]; exact hnt, hbel⟩
    · obtain ⟨j, rfl⟩ : ∃ j : Nat, q = j := ⟨q.toNat, by omega⟩
      obtain ⟨b, o, rfl, hcell⟩ := h4 j (by omega)
      have hcell := (hbel.cell (World.block_lt_of_cell? w _ hcell)).trans hcell
      rw [toNat_up] at hval
      have HS := Lib.hid (divlimb_step L l j c r _ (by rw [hown.len]; omega) (by omega) hval rfl)
      have hfr := hown.frozen j
      have hold := hown.cell j (by omega)
      have hx := hlo j
      have hq1 := quo_lt (r := r) (c := c) (x := nth l j) hr (hlo j)
      have hq2 : ((r : Int) * 1000000000 + (nth l j : Int)) / (c : Int) < 1000000000 := by
        have : (((r * 1000000000 + nth l j) / c : Nat) : Int) < 1000000000 := by omega
        simpa using this
      have hq3 : 0 ≤ ((r : Int) * 1000000000 + (nth l j : Int)) / (c : Int) := Int.ediv_nonneg (by omega) (by omega)
      have hm1 := Nat.mod_lt (r * 1000000000 + nth l j) hc0
      have H := Lib.hid (And.intro h3 (And.intro h4 (And.intro hown (And.intro hlo2 (And.intro hlo hbel)))))
      clear hval h3 h4 hown hlo hlo2 hbel
      go_wp2
      go_roundw
      case rel =>
        obtain ⟨h3, h4, hown, hlo2, hlo, hbel⟩ := H.out
        refine ⟨(j : Int) - 1, (r * 1000000000 + nth l j) % c, L.set j ((r * 1000000000 + nth l j) / c), rfl, by omega, by omega, by go_num, hm1, ?_, lo_set_drop (by rw [hown.len]; omega) hlo2 hq1, ?_, hbel.setCell (Nat.le_refl _) _⟩
        · have := hown.store j ((r * 1000000000 + nth l j) / c) (by omega)
          simpa using this
        · rw [show ((j : Int) - 1 + 1).toNat = j by omega]; exact HS.out
      case measure => simp [intOf]

end Go.Proofs.Ytdpiclmjdcjajaa
