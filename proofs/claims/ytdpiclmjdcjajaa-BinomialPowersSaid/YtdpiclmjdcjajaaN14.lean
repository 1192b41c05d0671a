/-
  The walk of euclidSteps: canonical numbers, the second not greater and of at least two limbs, at most 100000 limbs.
-/
import Derived.Test.YtdpiclmjdcjajaaN13
import Derived.Deep.RegionHeld3
namespace Go.Proofs.Ytdpiclmjdcjajaa
open Go.RowKit Num

theorem gcd_toNat {u v : Int} {x y : Nat} (hu : 0 ≤ u) (hv : 0 ≤ v) (h : Int.gcd u v = Int.gcd x y) : Nat.gcd u.toNat v.toNat = Nat.gcd x y := by
  have e1 : u.toNat = u.natAbs := by omega
  have e2 : v.toNat = v.natAbs := by omega
  rw [e1, e2]
  exact h

theorem lead_le {x y : Nat} (hx : x < 1000000000) (hy : y < 1000000000) : x * 1000000000 + y ≤ 999999999999999999 := by omega

/-- What a region of two calls keeps of the block of four. -/
theorem keep_box {W0 W : World} {B g : Nat} {a b c d : Int} (hb : Box W0 B g a b c d) (h : Below W0.heap.size W0 W) :
    W.cell? ⟨g, 0, none⟩ = some (.int .i64 a) ∧ W.cell? ⟨g, 1, none⟩ = some (.int .i64 b) ∧ W.cell? ⟨g, 2, none⟩ = some (.int .i64 c) ∧ W.cell? ⟨g, 3, none⟩ = some (.int .i64 d) ∧ Below W0.heap.size W0 W := by
  obtain ⟨c0, c1, c2, c3⟩ := hb.cells
  have hg := World.block_lt_of_cell? W0 _ c0
  exact ⟨(h.cell (p := ⟨g, 0, none⟩) hg).trans c0, (h.cell (p := ⟨g, 1, none⟩) hg).trans c1, (h.cell (p := ⟨g, 2, none⟩) hg).trans c2, (h.cell (p := ⟨g, 3, none⟩) hg).trans c3, h⟩

theorem below_next' {w W0 W : World} (h : Below w.heap.size w W0) (k : Below W0.heap.size W0 W) : Below w.heap.size w W := h.trans (k.mono h.size)
theorem below_next {W0 W W1 : World} (h : Below W0.heap.size W0 W) (k : Below W.heap.size W W1) : Below W0.heap.size W0 W1 := h.trans (k.mono h.size)

def EuclidP (x y : Nat) (w : World) (e : Ending) (w' : World) : Prop :=
  ∃ u v x' y', e = .returned (.tuple #[u, v]) ∧ Nt w' u x' ∧ Nt w' v y' ∧ Nat.gcd x' y' = Nat.gcd x y ∧ y' ≤ x' ∧ y' < y ∧ x' ≤ x ∧ Below w.heap.size w w'

set_option maxHeartbeats 1000000 in
theorem euclid_long (u v : Value) (x y k : Nat) (na nb : Nat) (w : World) (a b : List Nat) (ha : Lim w u a) (hb : Lim w v b) (ca : Cano a) (cb : Cano b) (hva : val a = x) (hvb : val b = y) (hna : a.length = na) (hnb : b.length = nb)
    (hne : na ≠ nb) (hy : 0 < y) (hyx : y ≤ x) (hx : x < pw k) (hk : k ≤ 100000) : Calls Try.prog 121 #[u, v] w (EuclidP x y w) := by
  have hdiv := divide_any u v x y k w ⟨a, ha, ca, hva⟩ ⟨b, hb, cb, hvb⟩ hy hx hk
  have HD := Lib.hid (And.intro hdiv (And.intro ha (And.intro hb (And.intro ca (And.intro cb (And.intro hva (And.intro hvb (And.intro hy hyx))))))))
  obtain ⟨pa, qa, rfl, a1, a2, a3, a4⟩ := ha
  obtain ⟨pb, qb, rfl, b1, b2, b3, b4⟩ := hb
  have hl2 : ((na : Int) == (nb : Int)) = false := by rw [beq_eq_false_iff_ne]; omega
  rw [hna, hnb] at HD ⊢
  clear hdiv a3 a4 b3 b4 a1 b1 ca cb hva hvb hna hnb hne
  go_enter Try.func121, Try.ntmps121
  go_wp2_with fail
  obtain ⟨hdiv, ha, hb, ca, cb, hva, hvb, hy, hyx⟩ := HD.out
  refine hdiv.mono ?_
  rintro e w1 ⟨q, r, rfl, hq, hr, hbel⟩
  have HF := Lib.hid (And.intro hq (And.intro hr hbel))
  clear hdiv ha hb ca cb hva hvb hq hr hbel
  go_wp2
  go_ret2
  obtain ⟨hq, hr, hbel⟩ := HF.out
  obtain ⟨hdiv, ha, hb, ca, cb, hva, hvb, hy, hyx⟩ := HD.out
  have hlt := Nat.mod_lt x hy
  refine ⟨_, _, y, x % y, rfl, ⟨b, hb.below hbel, cb, hvb⟩, hr, ?_, by omega, hlt, hyx, hbel⟩
  rw [Nat.gcd_comm, ← Nat.gcd_rec, Nat.gcd_comm]

set_option maxRecDepth 100000 in
set_option maxHeartbeats 4000000 in
theorem euclid_same (pa pb : Option Addr) (qa qb m : Nat) (w : World) (a b : List Nat) (ha : Lim w (.slice pa (m + 2) qa) a) (hb : Lim w (.slice pb (m + 2) qb) b) (ca : Cano a) (cb : Cano b) (hna : a.length = m + 2) (hnb : b.length = m + 2)
    (hyx : val b ≤ val a) (hk : m + 2 ≤ 100000) : Calls Try.prog 121 #[.slice pa (m + 2) qa, .slice pb (m + 2) qb] w (EuclidP (val a) (val b) w) := by
  have hl1 := leadingLimbs_any pa m qa a w ha hna ca.1 (by omega)
  have hl2 := fun W (h : Below w.heap.size w W) => leadingLimbs_any pb m qb b W (hb.below h) hnb cb.1 (by omega)
  have hP : nth a (m + 1) * 1000000000 + nth a m ≤ 999999999999999999 := lead_le (ca.1 _) (ca.1 _)
  have hQ : nth b (m + 1) * 1000000000 + nth b m ≤ 999999999999999999 := lead_le (cb.1 _) (cb.1 _)
  obtain ⟨P, hPd⟩ : ∃ P, P = nth a (m + 1) * 1000000000 + nth a m := ⟨_, rfl⟩
  obtain ⟨Q, hQd⟩ : ∃ Q, Q = nth b (m + 1) * 1000000000 + nth b m := ⟨_, rfl⟩
  have tx : val a = val (a.take m) + pw m * P := by rw [top_two a m hna, hPd, Nat.mul_comm 1000000000, Nat.add_comm (nth a m)]
  have ty : val b = val (b.take m) + pw m * Q := by rw [top_two b m hnb, hQd, Nat.mul_comm 1000000000, Nat.add_comm (nth b m)]
  have hl1 : Calls Try.prog 137 #[.slice pa (m + 2) qa] w fun e w' => e = .returned (.int .i64 (P : Int)) ∧ Below w.heap.size w w' := hl1.mono fun e w' h => by
    obtain ⟨h1, n, h2⟩ := h
    exact ⟨by rw [hPd]; exact h1, by rw [h2]; exact below_drewN (Below.refl _ _) n⟩
  have hl2 : ∀ W, Below w.heap.size w W → Calls Try.prog 137 #[.slice pb (m + 2) qb] W fun e w' => e = .returned (.int .i64 (Q : Int)) ∧ Below w.heap.size w w' := fun W hW => (hl2 W hW).mono fun e w' h => by
    obtain ⟨h1, n, h2⟩ := h
    exact ⟨by rw [hQd]; exact h1, by rw [h2]; exact below_drewN hW n⟩
  rw [← hPd] at hP
  rw [← hQd] at hQ
  have hl3 := fun W => leadingSteps_any P Q W (by omega) (by omega) (by omega) (by omega)
  have HA := Lib.hid (And.intro hl1 (And.intro hl2 (And.intro hl3 (And.intro ha (And.intro hb (And.intro ca (And.intro cb (And.intro hna (And.intro hnb (And.intro hyx (And.intro tx ty)))))))))))
  clear hl1 hl2 hl3 ha hb ca cb hna hnb hyx tx ty hPd hQd
  go_enter Try.func121, Try.ntmps121
  go_wp2_with fail
  obtain ⟨hl1, hl2, hl3, ha, hb, ca, cb, hna, hnb, hyx, tx, ty⟩ := HA.out
  refine hl1.mono ?_
  rintro e w1 ⟨rfl, hb1⟩
  have H1 := Lib.hid hb1
  clear hl1 hl2 hl3 ha hb ca cb hna hnb hyx tx ty hb1
  go_wp2_with fail
  obtain ⟨hl1, hl2, hl3, ha, hb, ca, cb, hna, hnb, hyx, tx, ty⟩ := HA.out
  refine (hl2 w1 H1.out).mono ?_
  rintro e w2 ⟨rfl, hb2⟩
  have H2 := Lib.hid hb2
  clear hl1 hl2 hl3 ha hb ca cb hna hnb hyx tx ty hb2
  go_wp2_with fail
  obtain ⟨hl1, hl2, hl3, ha, hb, ca, cb, hna, hnb, hyx, tx, ty⟩ := HA.out
  refine (hl3 w2).mono ?_
  rintro e w3 ⟨sa, sb, sc, sd, X, Y, rfl, hinv, hb3⟩
  have hbel : Below w.heap.size w w3 := H2.out.trans (hb3.mono H2.out.size)
  have H3 := Lib.hid (And.intro hinv hbel)
  have hsz := hbel.size
  have hbx := Box.new w3 w.heap.size hsz sa sb sc sd
  obtain ⟨c0, c1, c2, c3⟩ := hbx.cells
  have HB := Lib.hid hbx
  clear hl1 hl2 hl3 ha hb ca cb hna hnb hyx tx ty hb3 hinv hbel hbx
  by_cases hsb : sb = 0
  · subst hsb
    go_wp2_with fail
    obtain ⟨hl1, hl2, hl3, ha, hb, ca, cb, hna, hnb, hyx, tx, ty⟩ := HA.out
    obtain ⟨hinv, hbel⟩ := H3.out
    have hbw : Below w.heap.size w (w3.alloc (.cells #[.int .i64 sa, .int .i64 0, .int .i64 sc, .int .i64 sd] 133)) := hbel.alloc hsz _
    have hy : 0 < val b := by have := cb.pos (by omega); have := pw_pos (b.length - 1); omega
    have hx := val_lt ca.1
    rw [hna] at hx
    refine (divide_any _ _ (val a) (val b) (m + 2) _ ⟨a, ha.below hbw, ca, rfl⟩ ⟨b, hb.below hbw, cb, rfl⟩ hy hx hk).mono ?_
    rintro e w4 ⟨q, r, rfl, hq, hr, hb4⟩
    have HF := Lib.hid (And.intro hr (And.intro hb4 (And.intro hy hbw)))
    clear hl1 hl2 hl3 ha hb ca cb hna hnb hyx tx ty hinv hbel hq hr hb4 hbw hx hy
    go_wp2
    go_ret2
    obtain ⟨hr, hb4, hy, hbw⟩ := HF.out
    obtain ⟨hl1, hl2, hl3, ha, hb, ca, cb, hna, hnb, hyx, tx, ty⟩ := HA.out
    have hbel : Below w.heap.size w w4 := hbw.trans (hb4.mono hbw.size)
    have hlt := Nat.mod_lt (val a) hy
    refine ⟨_, _, val b, val a % val b, rfl, ⟨b, hb.below hbel, cb, rfl⟩, hr, ?_, by omega, hlt, hyx, hbel⟩
    rw [Nat.gcd_comm, ← Nat.gcd_rec, Nat.gcd_comm]
  · have hsb2 : (sb != 0) = true := by simpa using hsb
    go_wp2_with fail
    obtain ⟨hl1, hl2, hl3, ha, hb, ca, cb, hna, hnb, hyx, tx, ty⟩ := HA.out
    obtain ⟨hinv, hbel⟩ := H3.out
    obtain ⟨W0, hW0⟩ : ∃ W0, W0 = w3.alloc (.cells #[.int .i64 sa, .int .i64 sb, .int .i64 sc, .int .i64 sd] 133) := ⟨_, rfl⟩
    have hbw : Below w.heap.size w W0 := by rw [hW0]; exact hbel.alloc hsz _
    have hbx : Box W0 w.heap.size w3.heap.size sa sb sc sd := by rw [hW0]; exact HB.out
    have hpa := val_take_lt ca.1 m (by omega)
    have hpb := val_take_lt cb.1 m (by omega)
    obtain ⟨k1, k2, k3, k4⟩ := lehmer_fin (x := val a) (y := val b) hinv hsb (β := pw m) (p := val (a.take m)) (q := val (b.take m)) (by have := pw_pos m; omega) (by rw [tx]; simp [Int.mul_comm, Int.add_comm]) (by rw [ty]; simp [Int.mul_comm, Int.add_comm]) (by omega) (by omega)
    have hxlt := val_lt ca.1
    rw [hna] at hxlt
    obtain ⟨⟨i1, i2⟩, ⟨i3, i4⟩, ⟨i5, i6⟩, ⟨i7, i8⟩, _⟩ := inv_bounds hinv
    have hcomb1 : ∀ W, Below W0.heap.size W0 W → Calls Try.prog 138 #[.int .i64 sa, .slice pa (m + 2) qa, .int .i64 sb, .slice pb (m + 2) qb] W (NtP (sa * val a + sb * val b).toNat W) := fun W h =>
      combine_any _ _ a b sa sb W (ha.below (below_next' hbw h)) (hb.below (below_next' hbw h)) ca.1 cb.1 (by omega) (by omega) i1 i2 i3 i4 (by omega) (by rw [hna]; omega)
    have hcomb2 : ∀ W, Below W0.heap.size W0 W → Calls Try.prog 138 #[.int .i64 sc, .slice pa (m + 2) qa, .int .i64 sd, .slice pb (m + 2) qb] W (NtP (sc * val a + sd * val b).toNat W) := fun W h =>
      combine_any _ _ a b sc sd W (ha.below (below_next' hbw h)) (hb.below (below_next' hbw h)) ca.1 cb.1 (by omega) (by omega) i5 i6 i7 i8 (by omega) (by rw [hna]; omega)
    obtain ⟨c0, c1, c2, c3⟩ := hbx.cells
    rw [← hW0]
    have HC := Lib.hid (And.intro hcomb1 (And.intro hcomb2 (And.intro hbw (And.intro k1 (And.intro k2 (And.intro k3 k4))))))
    have HBX := Lib.hid hbx
    clear hl1 hl2 hl3 ha hb ca cb hna hnb hyx tx ty hinv hbel hbw hbx hpa hpb k1 k2 k3 k4 hxlt hcomb1 hcomb2 hW0 i1 i2 i3 i4 i5 i6 i7 i8
    go_region_held3 (fun w' => w'.cell? ⟨w3.heap.size, 0, none⟩ = some (.int .i64 sa) ∧ w'.cell? ⟨w3.heap.size, 1, none⟩ = some (.int .i64 sb) ∧ w'.cell? ⟨w3.heap.size, 2, none⟩ = some (.int .i64 sc) ∧ w'.cell? ⟨w3.heap.size, 3, none⟩ = some (.int .i64 sd) ∧ Below W0.heap.size W0 w')
      (first | exact keep_box HBX.out ((Below.refl _ _).drew) | (go_split_ands; exact keep_box HBX.out (below_next (by assumption) hb2)) | (go_split_ands; exact keep_box HBX.out (below_next (by assumption) hb1)))
      (first
        | (go_at_call_of 138 (Value.int IntKind.i64 sa); go_split_ands; refine (HC.out.1 _ (by assumption)).mono ?_; rintro e w1 ⟨r1, rfl, hn1, hb1⟩)
        | (go_at_call_of 138 (Value.int IntKind.i64 sc); go_split_ands; refine (HC.out.2.1 _ (by assumption)).mono ?_; rintro e w2 ⟨r2, rfl, hn2, hb2⟩))
    have HN := Lib.hid (And.intro hn1 (And.intro hb1 (And.intro hn2 hb2)))
    clear hn1 hb1 hn2 hb2
    go_wp2
    go_ret2
    obtain ⟨hn1, hb1, hn2, hb2⟩ := HN.out
    obtain ⟨_, _, hbw, k1, k2, k3, k4⟩ := HC.out
    obtain ⟨hl1, hl2, hl3, ha, hb, ca, cb, hna, hnb, hyx, tx, ty⟩ := HA.out
    have hd : Below W0.heap.size W0 w1 := below_next (Below.refl _ _).drew hb1
    refine ⟨r1, r2, _, _, rfl, hn1.below hb2, hn2, gcd_toNat (by omega) k1 k4, by omega, by omega, by omega, below_next' hbw (below_next hd hb2)⟩

/-- One or more steps of Euclid's algorithm. -/
theorem euclid_any (u v : Value) (x y k : Nat) (w : World) (a b : List Nat) (ha : Lim w u a) (hb : Lim w v b) (ca : Cano a) (cb : Cano b) (hva : val a = x) (hvb : val b = y) (hy2 : 2 ≤ b.length) (hyx : y ≤ x) (hx : x < pw k) (hk : k ≤ 100000) :
    Calls Try.prog 121 #[u, v] w (EuclidP x y w) := by
  have hl := cano_len ca (by rw [hva]; exact hx)
  have hy : 0 < y := by have := cb.pos (by omega); have := pw_pos (b.length - 1); omega
  by_cases hlen : a.length = b.length
  · obtain ⟨m, hm⟩ : ∃ m, a.length = m + 2 := ⟨a.length - 2, by omega⟩
    have ha' := ha
    have hb' := hb
    obtain ⟨pa, qa, rfl, a1⟩ := ha
    obtain ⟨pb, qb, rfl, b1⟩ := hb
    rw [← hlen] at hb' ⊢
    rw [hm] at ha' hb' ⊢
    subst hva hvb
    exact euclid_same pa pb qa qb m w a b ha' hb' ca cb hm (by omega) hyx (by omega)
  · exact euclid_long u v x y k _ _ w a b ha hb ca cb hva hvb rfl rfl hlen hy hyx hx hk

end Go.Proofs.Ytdpiclmjdcjajaa
