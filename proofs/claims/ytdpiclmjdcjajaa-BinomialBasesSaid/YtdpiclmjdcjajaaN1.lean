/-
  The walks of trim, denotesZero and normalize: for limbs of at most 1000000 places.
-/
import Derived.Test.YtdpiclmjdcjajaaBase
namespace Go.Proofs.Ytdpiclmjdcjajaa
open Go.RowKit Num

def TrimP (a : Option Addr) (n cap : Nat) (l : List Nat) (w : World) (e : Ending) (w' : World) : Prop :=
  ∃ k, k ≤ n ∧ e = .returned (.slice a k cap) ∧ (∀ i, k ≤ i → nth l i = 0) ∧ (k = 0 ∨ nth l (k - 1) ≠ 0) ∧ w = w'

set_option maxHeartbeats 400000 in
theorem trim_walk (a : Option Addr) (n cap : Nat) (l : List Nat) (w : World) (hn : n ≤ cap) (hcap : cap ≤ 9223372036854775807) (hl : l.length = n)
    (hc : ∀ i, i < n → ∃ b o, a = some ⟨b, o, none⟩ ∧ w.cell? ⟨b, o + i, none⟩ = some (.int .u32 (nth l i))) :
    Calls Try.prog 93 #[.slice a n cap] w (TrimP a n cap l w) := by
  go_enter Try.func93, Try.ntmps93
  go_wp2
  go_loop [0] (fun v => ∃ k : Nat, k ≤ n ∧ v = .slice a k cap ∧ (∀ i, k ≤ i → nth l i = 0)) (fun v => match v with | .slice _ k _ => k | _ => 0)
  case atStart => exact ⟨n, Nat.le_refl _, rfl, fun i hi => nth_out (by omega)⟩
  case round =>
    obtain ⟨k, hk, rfl, hz⟩ := hrel
    by_cases hk0 : k = 0
    · subst hk0
      go_wp2
      go_ret
      exact ⟨0, Nat.zero_le _, rfl, hz, .inl rfl, rfl⟩
    · obtain ⟨j, rfl⟩ : ∃ j, k = j + 1 := ⟨k - 1, by omega⟩
      obtain ⟨b, o, rfl, hcell⟩ := hc j (by omega)
      clear hc
      by_cases hx0 : nth l j = 0
      · rw [hx0] at hcell
        have HX := Lib.hid hx0
        clear hx0
        go_wp2
        go_round
        case rel => exact ⟨j, by omega, rfl, fun i hi => by rcases Nat.lt_or_eq_of_le hi with h | h; exact hz i (by omega); rw [← h]; exact HX.out⟩
        case measure => simp
      · go_wp2
        go_ret
        exact ⟨j + 1, by omega, rfl, hz, .inr hx0, rfl⟩

theorem trim_any (v : Value) (l : List Nat) (w : World) (h : Lim w v l) (hlo : Lo l) :
    Calls Try.prog 93 #[v] w fun e w' => ∃ v', e = .returned v' ∧ Nt w v' (val l) ∧ w = w' := by
  have h0 := h
  obtain ⟨a, cap, rfl, h1, h2, h3, h4⟩ := h
  refine (trim_walk a l.length cap l w h1 h2 rfl h4).mono ?_
  rintro e w' ⟨k, hk, rfl, hz, hn, rfl⟩
  exact ⟨_, rfl, ⟨l.take k, h0.take k hk, can_take hlo k hk hn, val_take_zeros k hk hz⟩, rfl⟩

def ZeroP (l : List Nat) (w : World) (e : Ending) (w' : World) : Prop := ∃ b : Bool, e = .returned (.bool b) ∧ (b = true ↔ val l = 0) ∧ w = w'

set_option maxHeartbeats 400000 in
theorem denotesZero_any (v : Value) (l : List Nat) (w : World) (h : Lim w v l) :
    Calls Try.prog 128 #[v] w (ZeroP l w) := by
  obtain ⟨a, cap, rfl, h1, h2, h3, h4⟩ := h
  go_enter Try.func128, Try.ntmps128
  go_wp2
  go_loop [7] (fun i => ∃ k : Nat, k ≤ l.length ∧ i = .int .i64 k ∧ ∀ j, j < k → nth l j = 0) (fun i => l.length - (intOf i).toNat)
  case atStart => exact ⟨0, Nat.zero_le _, rfl, fun j hj => by omega⟩
  case round =>
    obtain ⟨k, hk, rfl, hz⟩ := hrel
    by_cases hlt : k < l.length
    · obtain ⟨b, o, rfl, hcell⟩ := h4 k hlt
      clear h4
      have H3 := Lib.hid h3
      have hb := h3 k
      clear h3
      by_cases hx0 : nth l k = 0
      · rw [hx0] at hcell
        have HX := Lib.hid hx0
        clear hx0
        go_wp2
        go_round
        case rel => exact ⟨k + 1, by omega, by go_num, fun j hj => by rcases Nat.lt_or_eq_of_le (Nat.le_of_lt_succ hj) with h | h; exact hz j h; rw [h]; exact HX.out⟩
        case measure => simp [intOf]; omega
      · go_wp2
        go_ret
        exact ⟨false, rfl, by constructor; simp; intro hv; exact absurd (val_eq_zero hv k) hx0, rfl⟩
    · go_wp2
      go_ret
      exact ⟨true, rfl, by simp; exact val_zeros fun i hi => hz i (by omega), rfl⟩

/-- A function that answers a natural number in memory, and leaves old memory as it was. -/
def NtP (x : Nat) (w : World) (e : Ending) (w' : World) : Prop := ∃ v, e = .returned v ∧ Nt w' v x ∧ Below w.heap.size w w'

theorem norm_start (n : Nat) (l : List Nat) : val ((List.replicate n 0).take 0) + pw 0 * 0 = val (l.take 0) := by simp [val]
theorem norm_step (L l : List Nat) (k c : Nat) (hk : k < L.length) (hl : k < l.length) (h : val (L.take k) + pw k * c = val (l.take k)) :
    val ((L.set k ((c + nth l k) % 1000000000)).take (k + 1)) + pw (k + 1) * ((c + nth l k) / 1000000000) = val (l.take (k + 1)) := by
  refine carry_step L k _ _ hk ?_
  rw [val_take_succ l k hl, Nat.mul_add]; omega

set_option maxHeartbeats 400000 in
theorem normalize_any (v : Value) (l : List Nat) (w : World) (h : Lim w v l) (hn : l.length ≤ 1000000) : Calls Try.prog 129 #[v] w (NtP (val l) w) := by
  obtain ⟨a, cap, rfl, h1, h2, h3, h4⟩ := h
  obtain ⟨i0, hi, hz0, hz1, hz2⟩ := info_parts Try.info58
  go_enter Try.func129, Try.ntmps129
  go_wp2_with (at_make; refine wpList_make_full _ rfl _ _ 55 rfl w.heap.size 58 i0 (.int .u32 0) 1 Try.underlying55 hi hz0 hz1 _ _ _ _ (l.length + 1) rfl rfl (by omega) (by omega) ?b2 ?b3 (Nat.le_refl _) ?_)
  case b2 => rw [hz2]; omega
  case b3 => unfold maxLen; omega
  intro w0 hown0 hgrow0
  have hown : Own w0 w.heap.size w.heap.size (l.length + 1) (List.replicate (l.length + 1) 0) := own_made hown0 (by omega)
  have hbel : Below w.heap.size w w0 := (Below.refl _ _).grown hgrow0 (Nat.le_refl _) (fun k h => by cases h)
  clear hown0 hgrow0 hi hz0 hz1 hz2
  go_wp2
  go_loopw [4, 12] (fun c i wr => ∃ (k q : Nat) (L : List Nat), k ≤ l.length ∧ i = .int .i64 k ∧ c = .int .u64 q ∧ q ≤ 100 ∧ Own wr w.heap.size w.heap.size (l.length + 1) L ∧ (∀ j, j < k → nth L j < 1000000000) ∧
      val (L.take k) + pw k * q = val (l.take k) ∧ Below w.heap.size w wr) (fun _ i _ => l.length - (intOf i).toNat)
  case atStart => exact ⟨0, 0, _, Nat.zero_le _, rfl, rfl, by omega, hown, fun j hj => by omega, norm_start _ _, hbel⟩
  case round =>
    obtain ⟨k, q, L, hk, rfl, rfl, hq, hown, hlo, hval, hbel⟩ := hrel
    by_cases hlt : k < l.length
    · obtain ⟨b, o, rfl, hcell⟩ := h4 k hlt
      have hcell := (hbel.cell (World.block_lt_of_cell? w _ hcell)).trans hcell
      have HS := Lib.hid (norm_step L l k q (by rw [hown.len]; omega) hlt hval)
      have hfr := hown.frozen k
      have hold := hown.cell k (by omega)
      have hx := h3 k
      have H := Lib.hid (And.intro h3 (And.intro h4 (And.intro hown (And.intro hlo hbel))))
      clear hval h3 h4 hown hlo hbel
      go_wp2
      go_roundw
      case rel =>
        obtain ⟨h3, h4, hown, hlo, hbel⟩ := H.out
        refine ⟨k + 1, (q + nth l k) / 1000000000, _, by omega, by go_num, rfl, by omega, hown.store k ((q + nth l k) % 1000000000) (by omega), lo_set (by rw [hown.len]; omega) hlo (by omega), HS.out, ?_⟩
        exact hbel.setCell (Nat.le_refl _) _
      case measure => simp [intOf]; omega
    · obtain rfl : l.length = k := by omega
      have hfr := hown.frozen l.length
      have hold := hown.cell l.length (by omega)
      have H := Lib.hid (And.intro h3 (And.intro h4 (And.intro hown (And.intro hlo (And.intro hval hbel)))))
      clear hval h3 h4 hown hlo hbel
      go_wp2_with fail
      obtain ⟨h3, h4, hown, hlo, hval, hbel⟩ := H.out
      have hown2 := hown.store l.length q (by omega)
      refine (trim_any _ _ _ hown2.lim (lo_of fun i hi => ?_)).mono ?_
      · rw [hown2.len] at hi
        exact lo_set (by rw [hown.len]; omega) hlo (by omega) i hi
      rintro e w' ⟨v', rfl, hnt, rfl⟩
      go_wp2
      go_ret
      refine ⟨_, rfl, ?_, hbel.setCell (Nat.le_refl _) _⟩
      have e1 := val_set_take L l.length q (by rw [hown.len]; omega)
      rw [show l.length + 1 = (L.set l.length q).length by rw [hown2.len], List.take_length, hval, List.take_length] at e1
      rw [← e1]; exact hnt

end Go.Proofs.Ytdpiclmjdcjajaa
