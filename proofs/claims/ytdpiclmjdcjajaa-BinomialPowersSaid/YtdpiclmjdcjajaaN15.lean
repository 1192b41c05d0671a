/-
  The walk of commonDivisor: canonical numbers that are not both 0, at most 100000 limbs.
-/
import Derived.Test.YtdpiclmjdcjajaaN14
namespace Go.Proofs.Ytdpiclmjdcjajaa
open Go.RowKit Num

theorem cano_small {l : List Nat} (h : Cano l) (hl : l.length ≤ 2) : val l < 1000000000000000000 := by
  have h1 := val_lt h.1
  have h2 := pw_le hl
  have h3 : pw 2 = 1000000000000000000 := by decide
  omega

theorem word_fits {x : Nat} {f : Nat} {args : Array Value} {w : World} (h : Calls Try.prog f args w (WordP x w)) (hx : x < 18446744073709551616) :
    Calls Try.prog f args w fun e w' => w = w' ∧ e = .returned (.tuple #[.int .u64 x, .bool true]) := h.mono fun e w' hp => by
  obtain ⟨h1, ⟨_, h2⟩ | ⟨h2, _⟩⟩ := hp
  · exact ⟨h1, h2⟩
  · omega

def GcdR (x y k : Nat) (w : World) (n : Nat) (s t : Value) (wr : World) : Prop :=
  ∃ (p : Nat) (l1 l2 : List Nat), Lim wr s l1 ∧ Lim wr t l2 ∧ Cano l1 ∧ Cano l2 ∧ val l1 = p ∧ val l2 = n ∧ n ≤ p ∧ Nat.gcd p n = Nat.gcd x y ∧ 0 < p ∧ p < pw k ∧ Below w.heap.size w wr

theorem gcdR_below {x y k : Nat} {w : World} {n : Nat} {s t : Value} {w1 w2 : World} (h : GcdR x y k w n s t w1) (hb : Below w1.heap.size w1 w2) (_hw : Below w.heap.size w w1) : GcdR x y k w n s t w2 := by
  obtain ⟨p, l1, l2, h1, h2, c1, c2, v1, v2, hle, hg, hp, hk, hbel⟩ := h
  exact ⟨p, l1, l2, h1.below hb, h2.below hb, c1, c2, v1, v2, hle, hg, hp, hk, below_next hbel hb⟩

set_option maxHeartbeats 4000000 in
theorem commonDivisor_any (u v : Value) (x y k : Nat) (w : World) (hu : Nt w u x) (hv : Nt w v y) (h0 : 0 < x ∨ 0 < y) (hx : x < pw k) (hy : y < pw k) (hk : k ≤ 100000) :
    Calls Try.prog 95 #[u, v] w (NtP (Nat.gcd x y) w) := by
  obtain ⟨a, ha, ca, hva⟩ := hu
  obtain ⟨b, hb, cb, hvb⟩ := hv
  have hc := compare_any u v a b w ha hb ca cb
  rw [hva, hvb] at hc
  have hcase : (cmpI x y = -1 ∧ Hid (∀ w', Below w.heap.size w w' → GcdR x y k w (min x y) v u w')) ∨ (∃ c, cmpI x y = c ∧ 0 ≤ c ∧ Hid (∀ w', Below w.heap.size w w' → GcdR x y k w (min x y) u v w')) := by
    rcases Nat.lt_or_ge x y with h | h
    · refine .inl ⟨cmpI_lt (by omega), fun w' hb' => ⟨y, b, a, hb.below hb', ha.below hb', cb, ca, hvb, by omega, by omega, by rw [Nat.min_eq_left (by omega)]; exact Nat.gcd_comm _ _, by omega, hy, hb'⟩⟩
    · have hg : ∀ w', Below w.heap.size w w' → GcdR x y k w (min x y) u v w' := fun w' hb' => ⟨x, a, b, ha.below hb', hb.below hb', ca, cb, hva, by omega, by omega, by rw [Nat.min_eq_right h], by omega, hx, hb'⟩
      rcases Nat.lt_or_ge y x with h2 | h2
      · exact .inr ⟨_, cmpI_gt (by omega), by omega, hg⟩
      · exact .inr ⟨_, cmpI_eq (by omega), by omega, hg⟩
  have HC := Lib.hid hc
  clear hc ha hb ca cb hva hvb h0 hx hy
  go_enter Try.func95, Try.ntmps95
  go_wp2_with fail
  refine HC.out.mono ?_
  rintro e w1 ⟨rfl, n, rfl⟩
  obtain ⟨w1, hw1⟩ : ∃ w1, w1 = w.drewN n := ⟨_, rfl⟩
  have hbel : Below w.heap.size w w1 := by rw [hw1]; exact below_drewN (Below.refl _ _) n
  rw [← hw1]
  clear hw1
  rcases hcase with ⟨hc, HG⟩ | ⟨c, hc, hc0, HG⟩
  all_goals
    rw [hc]
    clear hc
    go_wp2
    go_loopg [0, 1] (min x y) (fun n s t wr => GcdR x y k w n s t wr)
    case atStart => exact HG.out _ hbel
    case round =>
      obtain ⟨p, l1, l2, h1, h2, c1, c2, v1, v2, hle, hg, hp, hpk, hbw⟩ := hrel
      have h2' := h2
      obtain ⟨pt, qt, rfl, t1, t2, t3, t4⟩ := h2
      have hlen1 := cano_len c1 (by rw [v1]; exact hpk)
      have hlen2 := cano_len c2 (l := l2) (k := k) (by omega)
      have HR := Lib.hid (And.intro h1 (And.intro h2' (And.intro c1 (And.intro c2 (And.intro v1 (And.intro v2 (And.intro hle (And.intro hg (And.intro hp (And.intro hpk (And.intro hbw (And.intro hlen1 hlen2))))))))))))
      have hsm : l2.length ≤ 100000 := by omega
      clear h1 h2' c1 c2 v1 v2 hle hg hp hpk hbw t3 t4 t1 HG hbel hlen1 hlen2
      by_cases h2l : 2 < l2.length
      · go_wp2_with fail
        obtain ⟨h1, h2, c1, c2, v1, v2, hle, hg, hp, hpk, hbw, hlen1, hlen2⟩ := HR.out
        refine (euclid_any _ _ p gk k wr l1 l2 h1 h2 c1 c2 v1 v2 (by omega) hle hpk hk).mono ?_
        rintro e w2 ⟨u', v', x', y', rfl, hu', hv', hg', hle', hlt', hlx, hb2⟩
        have HE := Lib.hid (And.intro hu' (And.intro hv' (And.intro hg' (And.intro hle' (And.intro hlt' (And.intro hlx hb2))))))
        clear h1 h2 c1 c2 v1 v2 hle hg hp hpk hbw hlen1 hlen2 hu' hv' hg' hle' hlt' hlx hb2
        go_wp2
        go_roundg y'
        case measure => exact HE.out.2.2.2.2.1
        case rel =>
          obtain ⟨h1, h2, c1, c2, v1, v2, hle, hg, hp, hpk, hbw, hlen1, hlen2⟩ := HR.out
          obtain ⟨⟨m1, hm1, cm1, vm1⟩, ⟨m2, hm2, cm2, vm2⟩, hg', hle', hlt', hlx, hb2⟩ := HE.out
          refine ⟨x', m1, m2, hm1, hm2, cm1, cm2, vm1, vm2, hle', hg'.trans hg, ?_, by omega, below_next hbw hb2⟩
          rcases Nat.eq_zero_or_pos x' with hz | hz
          · exfalso
            have hy0 : y' = 0 := by omega
            rw [hz, hy0, Nat.gcd_zero_left] at hg'
            have := Nat.gcd_pos_of_pos_left gk hp
            omega
          · exact hz
      · by_cases h00 : l2.length = 0
        · have hb0 : ((l2.length : Int) == 0) = true := by simp [h00]
          have HL := Lib.hid h00
          clear h00
          go_wp2
          go_ret
          obtain ⟨h1, h2, c1, c2, v1, v2, hle, hg, hp, hpk, hbw, hlen1, hlen2⟩ := HR.out
          have hgk : gk = 0 := by rw [← v2]; exact (c2.zero).2 HL.out
          rw [hgk, Nat.gcd_zero_right] at hg
          exact ⟨_, rfl, ⟨l1, h1, c1, by rw [v1, hg]⟩, hbw⟩
        · have hb0 : ((l2.length : Int) == 0) = false := by rw [beq_eq_false_iff_ne]; omega
          go_wp2_with fail
          obtain ⟨h1, h2, c1, c2, v1, v2, hle, hg, hp, hpk, hbw, hlen1, hlen2⟩ := HR.out
          have hgp : 0 < gk := by
            rcases Nat.eq_zero_or_pos gk with hz | hz
            · exact absurd ((c2.zero).1 (by omega)) h00
            · exact hz
          have hg18 : gk < 1000000000000000000 := by rw [← v2]; exact cano_small c2 (by omega)
          have hr18 : p % gk < gk := Nat.mod_lt _ hgp
          refine (divide_any _ _ p gk k wr ⟨l1, h1, c1, v1⟩ ⟨l2, h2, c2, v2⟩ hgp hpk hk).mono ?_
          rintro e w2 ⟨q, r, rfl, hq, ⟨l3, h3, c3, v3⟩, hb2⟩
          have hw1 := word_fits (v2 ▸ word_any _ l2 w2 (h2.below hb2) c2.1) (by omega)
          have hw2 := word_fits (v3 ▸ word_any r l3 w2 h3 c3.1) (by omega)
          have hws := words_any gk (p % gk) w2 (by omega) (by omega)
          have hgle : Nat.gcd gk (p % gk) ≤ gk := Nat.gcd_le_left _ hgp
          have hnat := fun W => naturalOf_any (Nat.gcd gk (p % gk)) (by omega) W
          have hgg : Nat.gcd gk (p % gk) = Nat.gcd x y := by rw [← hg, Nat.gcd_comm gk, ← Nat.gcd_rec, Nat.gcd_comm]
          have HF := Lib.hid (And.intro hw1 (And.intro hw2 (And.intro hws (And.intro hnat (And.intro hgg (And.intro hbw hb2))))))
          clear h1 h2 c1 c2 v1 v2 hle hg hp hpk hbw hlen1 hlen2 hq h3 c3 v3 hb2 hw1 hw2 hws hgle hnat hgg hg18 hr18
          go_wp2_with fail
          refine HF.out.1.mono ?_
          rintro e w3 ⟨rfl, rfl⟩
          go_wp2_with fail
          refine HF.out.2.1.mono ?_
          rintro e w4 ⟨rfl, rfl⟩
          go_wp2_with fail
          refine HF.out.2.2.1.mono ?_
          rintro e w5 ⟨rfl, n5, rfl⟩
          go_wp2_with fail
          refine (HF.out.2.2.2.1 _).mono ?_
          rintro e w6 ⟨v6, rfl, hn6, hb6⟩
          have HN := Lib.hid (And.intro hn6 hb6)
          clear hn6 hb6
          go_wp2
          go_ret
          obtain ⟨hn6, hb6⟩ := HN.out
          obtain ⟨_, _, _, _, hgg, hbw, hb2⟩ := HF.out
          rw [hgg] at hn6
          exact ⟨v6, rfl, hn6, below_next (below_drewN (below_next hbw hb2) _) hb6⟩

end Go.Proofs.Ytdpiclmjdcjajaa
