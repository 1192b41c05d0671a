/-
  The reference's walks of cut, nat and limbs.
-/
import Derived.Test.YtdpiclmjdcjajaaC1
namespace Go.Proofs.Ytdpiclmjdcjajaa
open Go.RowKit Num

/-- A slice of a new block. -/
def Fresh (w : World) (v : Value) : Prop := ∀ k, v.ownBlock = some k → w.heap.size ≤ k

def CutP (n : Nat) (l : List Nat) (w : World) (e : Ending) (w' : World) : Prop := ∃ k v, k ≤ n ∧ e = .returned v ∧ (∀ i, k ≤ i → nth l i = 0) ∧ (k = 0 ∨ nth l (k - 1) ≠ 0) ∧ Lim w' v (l.take k) ∧ Below w.heap.size w w' ∧ Fresh w v

set_option maxHeartbeats 1000000 in
theorem cut_walk (a : Option Addr) (n cap : Nat) (l : List Nat) (w : World) (hn : n ≤ cap) (hmax : n ≤ 1000000) (hl : l.length = n)
    (hc : ∀ i, i < n → ∃ b o, a = some ⟨b, o, none⟩ ∧ w.cell? ⟨b, o + i, none⟩ = some (.int .u32 (nth l i))) (h3 : ∀ i, nth l i < 4294967296) :
    Calls Try.prog 97 #[.slice a n cap] w (CutP n l w) := by
  obtain ⟨i0, hi, hz0, hz1, hz2⟩ := info_parts Try.info58
  have HL := Lib.hid hl
  have H3 := Lib.hid h3
  have hz := fun i (hi : n ≤ i) => nth_out (l := l) (i := i) (by omega)
  clear hl h3
  go_enter Try.func97, Try.ntmps97
  go_wp2
  go_loop [3] (fun v => ∃ k : Nat, k ≤ n ∧ v = .int .i64 k ∧ (∀ i, k ≤ i → nth l i = 0)) (fun v => (intOf v).toNat)
  case atStart => exact ⟨n, Nat.le_refl _, rfl, hz⟩
  case round =>
    obtain ⟨k, hk, rfl, hz⟩ := hrel
    by_cases hk0 : k = 0
    · subst hk0
      have HZ := Lib.hid hz
      have HC := Lib.hid hc
      clear hz hc
      cases a
      all_goals
        go_wp2
        go_ret
        exact ⟨0, _, Nat.zero_le _, rfl, HZ.out, .inl rfl, by simpa using Lim.nil w, Below.refl _ _, fun k h => by cases h⟩
    · obtain ⟨j, rfl⟩ : ∃ j, k = j + 1 := ⟨k - 1, by omega⟩
      obtain ⟨b, o, rfl, hcell⟩ := hc j (by omega)
      by_cases hx0 : nth l j = 0
      · rw [hx0] at hcell
        have HX := Lib.hid hx0
        have HC := Lib.hid hc
        clear hx0 hc
        go_wp2
        go_round
        case rel => exact ⟨j, by omega, by go_num, fun i hi => by rcases Nat.lt_or_eq_of_le hi with h | h; exact hz i (by omega); rw [← h]; exact HX.out⟩
        case measure => simp [intOf]
      · have hb : ((nth l j : Int) == 0) = false := by rw [beq_eq_false_iff_ne]; omega
        have hx32 := H3.out j
        have HC := Lib.hid (And.intro hc (And.intro hx0 hz))
        clear hc hx0 hz
        go_wp2_with (at_builtin; refine wpList_append_own _ rfl _ _ 22 rfl w.heap.size 58 i0 (.int .u32 0) 1 4 Try.underlying22 hi hz0 hz1 hz2 rfl (by decide) (.slice none 0 0) 0 [] rfl (World.ownsRow_nil _ _ _ _) ⟨b, o, none⟩ (j + 1) cap (lims (l.take (j + 1))) rfl ?d0 ?d1 ?d2 ?d3 ?d4 (Nat.le_refl _) ?_)
        case d0 => rw [lims_length, List.length_take, HL.out]; omega
        case d1 =>
          have hc := HC.out.1
          intro i u hu
          have hi : i < j + 1 := by
            rcases Nat.lt_or_ge i (j + 1) with h | h
            · exact h
            · rw [List.getElem?_eq_none (by rw [lims_length, List.length_take]; omega)] at hu; cases hu
          obtain ⟨b', o', e, h⟩ := hc i (by omega)
          cases e
          rw [h, ← hu, lims_get _ _ (by rw [List.length_take, HL.out]; omega), nth_take, if_pos hi]
        case d2 => exact lims_oneCell _
        case d3 => unfold maxLen; omega
        case d4 => omega
        intro v1 w1 hown1 hgrow1 _
        have HO := Lib.hid (And.intro hown1 hgrow1)
        clear hown1 hgrow1
        go_wp2
        go_ret
        obtain ⟨hown1, hgrow1⟩ := HO.out
        refine ⟨j + 1, v1, by omega, rfl, HC.out.2.2, .inr (by simpa using HC.out.2.1), lim_owns hown1 (by rw [List.length_take, HL.out]; omega) (fun i => by rw [nth_take]; split; exact H3.out i; omega), ?_, fun k h => (hown1.lt k h).1⟩
        exact (Below.refl w.heap.size w).grown hgrow1 (Nat.le_refl _) (by simp [Value.ownBlock])

theorem cut_any (v : Value) (l : List Nat) (w : World) (h : Lim w v l) (hlo : Lo l) (hn : l.length ≤ 1000000) : Calls Try.prog 97 #[v] w (NtP (val l) w) := by
  obtain ⟨a, cap, rfl, h1, h2, h3, h4⟩ := h
  refine (cut_walk a l.length cap l w h1 hn rfl h4 h3).mono ?_
  rintro e w' ⟨k, v, hk, rfl, hz, hn, hL, hb, _⟩
  exact ⟨v, rfl, ⟨l.take k, hL, can_take hlo k hk hn, val_take_zeros k hk hz⟩, hb⟩

/-- .. and the answer lies in a new block. -/
def NtN (x : Nat) (w : World) (e : Ending) (w' : World) : Prop := ∃ v, e = .returned v ∧ Nt w' v x ∧ Below w.heap.size w w' ∧ Fresh w v

theorem cut_new (v : Value) (l : List Nat) (w : World) (h : Lim w v l) (hlo : Lo l) (hn : l.length ≤ 1000000) : Calls Try.prog 97 #[v] w (NtN (val l) w) := by
  obtain ⟨a, cap, rfl, h1, h2, h3, h4⟩ := h
  refine (cut_walk a l.length cap l w h1 hn rfl h4 h3).mono ?_
  rintro e w' ⟨k, v, hk, rfl, hz, hn, hL, hb, hf⟩
  exact ⟨v, rfl, ⟨l.take k, hL, can_take hlo k hk hn, val_take_zeros k hk hz⟩, hb, hf⟩

set_option maxHeartbeats 1000000 in
theorem limbs_any (n : Nat) (hn : n < 18446744073709551616) (w : World) : Calls Try.prog 90 #[.int .u64 n] w (NtP n w) := by
  obtain ⟨i0, hi, hz0, hz1, hz2⟩ := info_parts Try.info58
  have hn' : n ≤ 18446744073709551615 := by omega
  clear hn
  go_enter Try.func90, Try.ntmps90
  go_wp2
  go_loopw [0, 3] (fun s v wr => ∃ (q : Nat) (L : List Nat), s = .int .u64 q ∧ q ≤ n ∧ wr.ownsRow w.heap.size 58 1 v L.length (lims L) ∧ Lo L ∧ val L + pw L.length * q = n ∧ (q = 0 → Cano L) ∧ Below w.heap.size w wr)
    (fun s _ _ => (intOf s).toNat)
  case atStart => exact ⟨n, [], rfl, Nat.le_refl _, World.ownsRow_nil _ _ _ _, fun i => by rw [nth_nil]; omega, by simp [val, pw], fun _ => cano_nil, Below.refl _ _⟩
  case round =>
    obtain ⟨q, L, rfl, hq, hown, hlo, hval, hcan, hbel⟩ := hrel
    by_cases h0 : q = 0
    · have hcan' := hcan h0
      clear hcan
      subst h0
      have H := Lib.hid (And.intro hown (And.intro hval (And.intro hcan' (And.intro hlo hbel))))
      clear hown hval hcan' hlo hbel
      go_wp2
      go_ret
      obtain ⟨hown, hval, hcan, hlo, hbel⟩ := H.out
      refine ⟨_, rfl, ⟨L, lim_owns hown rfl (fun i => by have := hlo i; omega), hcan, by omega⟩, hbel⟩
    · have hk := len_small (k := L.length) (q := q) (n := n) (by omega) (by omega) (by omega)
      have hpos : 0 < q := by omega
      have H := Lib.hid (And.intro hval (And.intro hlo hbel))
      have hs := hbel.size
      clear hval hcan hlo hbel
      go_wp2_with (at_builtin; refine wpList_append_own _ rfl _ _ 22 rfl w.heap.size 58 i0 (.int .u32 0) 1 4 Try.underlying22 hi hz0 hz1 hz2 rfl (by decide) _ _ _ rfl (hown.alloc _) ⟨wr.heap.size, 0, none⟩ 1 1 [.int .u32 ((q % 1000000000 : Nat) : Int)] rfl rfl ?c1 ?c2 ?c3 ?c4 ?c5 ?_)
      case c1 =>
        intro j u hj
        match j, hj with
        | 0, hj => simp at hj; subst hj; simp [Addr.add]
      case c2 => intro u hu; simp at hu; subst hu; rfl
      case c3 => unfold maxLen; omega
      case c4 => omega
      case c5 => simp; omega
      intro v' w1 hown' hgrow _
      have H2 := Lib.hid (And.intro hown' (And.intro hgrow hown))
      clear hown' hgrow hown
      go_wp2
      go_roundw
      case rel =>
        obtain ⟨hval, hlo, hbel⟩ := H.out
        obtain ⟨hown', hgrow, hown⟩ := H2.out
        refine ⟨q / 1000000000, L ++ [q % 1000000000], by go_num, by omega, ?_, lo_snoc hlo (by omega), ?_, fun h => cano_snoc hlo (by omega) (by omega), (hbel.alloc hs _).grown hgrow (by simp; omega) (fun k hk => (hown.lt k hk).1)⟩
        · rw [← lims_append]; simpa [lims] using hown'
        · simp only [List.length_append, List.length_singleton]; rw [snoc_step, hval]
      case measure => simp [intOf]; omega

theorem nat_step (L l : List Nat) (k c : Nat) (hL : L.length = k) (hl : k < l.length) (h : val L + pw k * c = val (l.take k)) :
    val (L ++ [(c + nth l k) % 1000000000]) + pw (k + 1) * ((c + nth l k) / 1000000000) = val (l.take (k + 1)) := by
  have := snoc_step L (c + nth l k)
  rw [hL] at this
  rw [this, val_take_succ l k hl, Nat.mul_add]
  omega

set_option maxHeartbeats 2000000 in
theorem nat_any (v : Value) (l : List Nat) (w : World) (h : Lim w v l) (hn : l.length ≤ 100000) : Calls Try.prog 98 #[v] w (NtP (val l) w) := by
  obtain ⟨a, cap, rfl, _, _, h3, h4⟩ := h
  obtain ⟨i0, hi, hz0, hz1, hz2⟩ := info_parts Try.info58
  obtain ⟨n, hln⟩ : ∃ n, l.length = n := ⟨_, rfl⟩
  have HL := Lib.hid hln
  rw [hln] at h4 hn ⊢
  clear hln
  go_enter Try.func98, Try.ntmps98
  go_wp2
  go_loopw [3, 4, 5] (fun s c i wr => ∃ (k q : Nat) (L : List Nat), k ≤ n ∧ i = .int .i64 k ∧ c = .int .u64 q ∧ q ≤ 100 ∧ L.length = k ∧ wr.ownsRow w.heap.size 58 1 s k (lims L) ∧ Lo L ∧ val L + pw k * q = val (l.take k) ∧ Below w.heap.size w wr)
    (fun _ _ i _ => n - (intOf i).toNat)
  case atStart => exact ⟨0, 0, [], Nat.zero_le _, rfl, rfl, by omega, rfl, World.ownsRow_nil _ _ _ _, fun i => by rw [nth_nil]; omega, by simp [val], Below.refl _ _⟩
  case round =>
    obtain ⟨k, q, L, hk, rfl, rfl, hq, hL, hown, hlo, hval, hbel⟩ := hrel
    by_cases hlt : k < n
    · obtain ⟨b, o, rfl, hcell⟩ := h4 k hlt
      have hcell := (hbel.cell (World.block_lt_of_cell? w _ hcell)).trans hcell
      have hx := h3 k
      have hs := hbel.size
      have HS := Lib.hid (nat_step L l k q hL (by rw [HL.out]; exact hlt) hval)
      have H := Lib.hid (And.intro h3 (And.intro h4 (And.intro hL (And.intro hlo hbel))))
      clear h3 h4 hL hlo hval hbel
      obtain ⟨x, hxe⟩ : ∃ x, nth l k = x := ⟨_, rfl⟩
      rw [hxe] at hcell hx HS
      clear hxe
      go_wp2_with (at_builtin; refine wpList_append_own _ rfl _ _ 22 rfl w.heap.size 58 i0 (.int .u32 0) 1 4 Try.underlying22 hi hz0 hz1 hz2 rfl (by decide) _ _ _ rfl (hown.alloc _) ⟨wr.heap.size, 0, none⟩ 1 1 [.int .u32 (((q + x) % 1000000000 : Nat) : Int)] rfl rfl ?c1 ?c2 ?c3 ?c4 ?c5 ?_)
      case c1 =>
        intro j u hj
        match j, hj with
        | 0, hj => simp at hj; subst hj; simp [Addr.add]
      case c2 => intro u hu; simp at hu; subst hu; rfl
      case c3 => unfold maxLen; omega
      case c4 => omega
      case c5 => simp; omega
      intro v' w1 hown' hgrow _
      have H2 := Lib.hid (And.intro hown' (And.intro hgrow hown))
      clear hown' hgrow hown
      go_wp2
      go_roundw
      case rel =>
        obtain ⟨h3, h4, hL, hlo, hbel⟩ := H.out
        obtain ⟨hown', hgrow, hown⟩ := H2.out
        refine ⟨k + 1, (q + x) / 1000000000, L ++ [(q + x) % 1000000000], by omega, by go_num, by go_num, by omega, by simp [hL], ?_, lo_snoc hlo (by omega), HS.out, (hbel.alloc hs _).grown hgrow (by simp; omega) (fun k hk => (hown.lt k hk).1)⟩
        rw [← lims_append]; simpa [lims] using hown'
      case measure => simp [intOf]; omega
    · obtain rfl : n = k := by omega
      have htk : val (l.take n) = val l := by rw [← HL.out, List.take_length]
      rw [htk] at hval
      have hs := hbel.size
      have H := Lib.hid (And.intro hL (And.intro hlo (And.intro hval hbel)))
      clear h3 h4 hL hlo hval hbel htk
      by_cases hq0 : q = 0
      · subst hq0
        go_wp2_with fail
        obtain ⟨hL, hlo, hval, hbel⟩ := H.out
        have hlim := lim_owns hown hL (fun i => by have := hlo i; omega)
        refine (cut_any _ L _ hlim hlo (by omega)).mono ?_
        rintro e w2 ⟨v2, rfl, hnt, hb⟩
        have HE := Lib.hid (And.intro hnt (below_next' hbel hb))
        clear hnt hb hlim
        go_wp2
        go_ret
        exact ⟨v2, rfl, by have := HE.out.1; rw [show val L = val l by simpa using H.out.2.2.1] at this; exact this, HE.out.2⟩
      · have hpos : 0 < q := by omega
        clear hq0
        go_wp2_with (at_builtin; refine wpList_append_own _ rfl _ _ 22 rfl w.heap.size 58 i0 (.int .u32 0) 1 4 Try.underlying22 hi hz0 hz1 hz2 rfl (by decide) _ _ _ rfl (hown.alloc _) ⟨wr.heap.size, 0, none⟩ 1 1 [.int .u32 (q : Int)] rfl rfl ?c1 ?c2 ?c3 ?c4 ?c5 ?_)
        case c1 =>
          intro j u hj
          match j, hj with
          | 0, hj => simp at hj; subst hj; simp [Addr.add]
        case c2 => intro u hu; simp at hu; subst hu; rfl
        case c3 => unfold maxLen; omega
        case c4 => omega
        case c5 => simp; omega
        intro v' w1 hown' hgrow _
        have H2 := Lib.hid (And.intro hown' (And.intro hgrow hown))
        clear hown' hgrow hown
        go_wp2_with fail
        obtain ⟨hL, hlo, hval, hbel⟩ := H.out
        obtain ⟨hown', hgrow, hown⟩ := H2.out
        have e1 : lims L ++ [Value.int .u32 (q : Int)] = lims (L ++ [q]) := by rw [← lims_append]; rfl
        rw [e1] at hown'
        have hlo' := lo_snoc (L := L) (x := q) hlo (by omega)
        have hlim := lim_owns hown' (by simp [hL]) (fun i => by have := hlo' i; omega)
        have hb1 := (hbel.alloc hs (.cells #[.int .u32 (q : Int)] 58)).grown hgrow (by simp; omega) (fun k hk => (hown.lt k hk).1)
        have hv : val (L ++ [q]) = val l := by rw [val_append, hL]; simpa [val] using hval
        refine (cut_any _ (L ++ [q]) _ hlim hlo' (by simp [hL]; omega)).mono ?_
        rintro e w2 ⟨v2, rfl, hnt, hb⟩
        rw [hv] at hnt
        have HE := Lib.hid (And.intro hnt (below_next' hb1 hb))
        clear hnt hb hlim hb1 hv hL hlo hval hbel hown' hgrow hown hlo' e1
        go_wp2
        go_ret
        exact ⟨v2, rfl, HE.out.1, HE.out.2⟩

end Go.Proofs.Ytdpiclmjdcjajaa

/-
  The reference's walks of natCmp, natSub, natAdd and natSmall.
-/
namespace Go.Proofs.Ytdpiclmjdcjajaa
open Go.RowKit Num

set_option maxHeartbeats 1000000 in
theorem natCmp_same (pa pb : Option Addr) (n qa qb : Nat) (a b : List Nat) (w : World) (hn : n ≤ 9223372036854775807) (la : a.length = n) (lb : b.length = n) (ca : Cano a) (cb : Cano b)
    (a3 : ∀ i, nth a i < 4294967296) (b3 : ∀ i, nth b i < 4294967296)
    (a4 : ∀ i, i < n → ∃ b o, pa = some ⟨b, o, none⟩ ∧ w.cell? ⟨b, o + i, none⟩ = some (.int .u32 (nth a i)))
    (b4 : ∀ i, i < n → ∃ c o, pb = some ⟨c, o, none⟩ ∧ w.cell? ⟨c, o + i, none⟩ = some (.int .u32 (nth b i))) :
    Calls Try.prog 88 #[.slice pa n qa, .slice pb n qb] w (CmpP (val a) (val b) w) := by
  have LA := Lib.hid la
  have LB := Lib.hid lb
  clear la lb
  go_enter Try.func88, Try.ntmps88
  go_wp2
  go_loopw [5] (fun i wr => ∃ q : Int, i = .int .i64 q ∧ -1 ≤ q ∧ q < n ∧ a.drop (q + 1).toNat = b.drop (q + 1).toNat ∧ ∃ m, wr = w.drewN m) (fun i _ => (intOf i + 1).toNat)
  case atStart => exact ⟨_, rfl, by omega, by omega, by rw [List.drop_of_length_le (by have := LA.out; omega), List.drop_of_length_le (by have := LB.out; omega)], 0, rfl⟩
  case round =>
    obtain ⟨q, rfl, h1, h2, hd, m, rfl⟩ := hrel
    by_cases hq : q = -1
    · subst hq
      have HD := Lib.hid hd
      clear hd
      go_wp2
      go_ret
      refine ⟨ret_int ?_, m, rfl⟩
      have : a = b := by simpa using HD.out
      rw [this, cmpI_eq rfl]
    · obtain ⟨j, rfl⟩ : ∃ j : Nat, q = j := ⟨q.toNat, by omega⟩
      obtain ⟨ba, oa, rfl, acell⟩ := a4 j (by omega)
      obtain ⟨bb, ob, rfl, bcell⟩ := b4 j (by omega)
      have ha := a3 j
      have hb := b3 j
      rw [toNat_up] at hd
      have HD := Lib.hid (And.intro hd (And.intro a3 (And.intro b3 (And.intro a4 b4))))
      clear hd a3 b3 a4 b4
      by_cases hx : nth a j = nth b j
      · rw [hx] at acell
        have HX := Lib.hid hx
        clear hx
        go_wp2
        go_quiet (fail)
        go_wp2
        go_quiet (fail)
        go_wp2
        go_roundw
        case rel =>
          obtain ⟨hd, a3, b3, a4, b4⟩ := HD.out
          refine ⟨_, rfl, by omega, by omega, ?_, by first | exact drew_any _ _ | exact ⟨_, by rw [World.drewN_drewN, World.drewN_drewN]⟩⟩
          rw [show ((j : Int) - 1 + 1).toNat = j by omega, drop_cons a j (by have := LA.out; omega), drop_cons b j (by have := LB.out; omega), hd, HX.out]
        case measure => simp [intOf]
      · have HR : Hid (cmpI (nth a j) (nth b j) = cmpI (val a) (val b)) := by
          obtain ⟨hd, a3, b3, a4, b4⟩ := HD.out
          rcases Nat.lt_or_gt_of_ne hx with h | h
          · have := val_lt_at ca.1 (by rw [LA.out, LB.out]) j (by rw [LA.out]; omega) hd h
            rw [cmpI_lt (by omega), cmpI_lt (by omega)]; rfl
          · have := val_lt_at cb.1 (by rw [LA.out, LB.out]) j (by rw [LB.out]; omega) hd.symm h
            rw [cmpI_gt (by omega), cmpI_gt (by omega)]; rfl
        rcases Nat.lt_or_gt_of_ne hx with h | h
        · have he : cmpI (nth a j) (nth b j) = -1 := cmpI_lt (by omega)
          rw [he] at HR
          clear he hx
          go_wp2
          go_quiet (fail)
          go_wp2
          go_ret
          exact ⟨ret_int HR.out, _, by first | rfl | rw [World.drewN_drewN]⟩
        · have he : cmpI (nth a j) (nth b j) = 1 := cmpI_gt (by omega)
          rw [he] at HR
          clear he hx
          go_wp2
          go_quiet (fail)
          go_wp2
          go_quiet (fail)
          go_wp2
          go_ret
          exact ⟨ret_int HR.out, _, by first | rw [World.drewN_drewN, World.drewN_drewN] | rw [World.drewN_drewN] | rfl⟩

set_option maxHeartbeats 1000000 in
theorem natCmp_any (u v : Value) (a b : List Nat) (w : World) (ha : Lim w u a) (hb : Lim w v b) (ca : Cano a) (cb : Cano b) : Calls Try.prog 88 #[u, v] w (CmpP (val a) (val b) w) := by
  obtain ⟨pa, qa, rfl, a1, a2, a3, a4⟩ := ha
  obtain ⟨pb, qb, rfl, b1, b2, b3, b4⟩ := hb
  by_cases hlen : a.length = b.length
  · rw [← hlen] at b4 ⊢
    exact natCmp_same pa pb a.length qa qb a b w (by omega) rfl hlen.symm ca cb a3 b3 a4 b4
  · have hl2 : ((a.length : Int) != (b.length : Int)) = true := by simp; omega
    rcases Nat.lt_or_gt_of_ne hlen with h | h
    · have HR : Hid ((-1 : Int) = cmpI (val a) (val b)) := by
        have := can_len_lt ca cb h
        show (-1 : Int) = _
        rw [cmpI_lt (by omega)]
      clear a4 b4 hlen
      go_enter Try.func88, Try.ntmps88
      go_wp2
      go_ret
      exact ⟨ret_int HR.out, 0, rfl⟩
    · have HR : Hid ((1 : Int) = cmpI (val a) (val b)) := by
        have := can_len_lt cb ca h
        show (1 : Int) = _
        rw [cmpI_gt (by omega)]
      clear a4 b4 hlen
      go_enter Try.func88, Try.ntmps88
      go_wp2
      go_ret
      exact ⟨ret_int HR.out, 0, rfl⟩

set_option maxHeartbeats 2000000 in
theorem natSub_lim (u v : Value) (x y : List Nat) (w : World) (hx : Lim w u x) (hy : Lim w v y) (xlo : Lo x) (ylo : Lo y) (xn : x.length ≤ 1000000) (hxy : y.length ≤ x.length) (hle : val y ≤ val x) :
    Calls Try.prog 89 #[u, v] w (NtN (val x - val y) w) := by
  obtain ⟨ax, capx, rfl, x1, x2, x3, x4⟩ := hx
  obtain ⟨ay, capy, rfl, y1, y2, y3, y4⟩ := hy
  obtain ⟨i0, hi, hz0, hz1, hz2⟩ := info_parts Try.info58
  have HXY := Lib.hid (And.intro hxy hle)
  clear hxy hle
  go_enter Try.func89, Try.ntmps89
  go_wp2_with (at_make; refine wpList_make_full _ rfl _ _ 22 rfl w.heap.size 58 i0 (.int .u32 0) 1 Try.underlying22 hi hz0 hz1 _ _ _ _ x.length rfl rfl (by omega) (by omega) ?b2 ?b3 (Nat.le_refl _) ?_)
  case b2 => rw [hz2]; omega
  case b3 => unfold maxLen; omega
  intro w0 hown0 hgrow0
  have hown : Own w0 w.heap.size w.heap.size x.length (List.replicate x.length 0) := own_made hown0 (by omega)
  have hbel : Below w.heap.size w w0 := (Below.refl _ _).grown hgrow0 (Nat.le_refl _) (fun k h => by cases h)
  clear hown0 hgrow0 hi hz0 hz1 hz2
  go_wp2
  go_loopw [6, 7, 8] (fun c i l wr => ∃ (k q : Nat) (L : List Nat), k ≤ x.length ∧ i = .int .i64 k ∧ c = .int .u32 q ∧ q ≤ 1 ∧ Own wr w.heap.size w.heap.size x.length L ∧ (∀ j, j < k → nth L j < 1000000000) ∧
      val (L.take k) + val (y.take k) = val (x.take k) + pw k * q ∧ Below w.heap.size w wr) (fun _ i _ _ => x.length - (intOf i).toNat)
  case atStart => exact ⟨0, 0, _, Nat.zero_le _, rfl, rfl, by omega, hown, fun j hj => by omega, by simp [val], hbel⟩
  case round =>
    obtain ⟨k, q, L, hk, rfl, rfl, hq, hown, hlo2, hval, hbel⟩ := hrel
    by_cases hlt : k < x.length
    · obtain ⟨b, o, rfl, hcell⟩ := x4 k hlt
      have hcell := (hbel.cell (World.block_lt_of_cell? w _ hcell)).trans hcell
      have hfr := hown.frozen k
      have hold := hown.cell k (by omega)
      have hp := xlo k
      have hr := ylo k
      by_cases hlt2 : k < y.length
      · obtain ⟨b2, o2, rfl, hcell2⟩ := y4 k hlt2
        have hcell2 := (hbel.cell (World.block_lt_of_cell? w _ hcell2)).trans hcell2
        have H := Lib.hid (And.intro x3 (And.intro x4 (And.intro y3 (And.intro y4 (And.intro xlo (And.intro ylo (And.intro hown (And.intro hlo2 (And.intro hbel hval)))))))))
        clear hval x3 x4 y3 y4 xlo ylo hown hlo2 hbel
        by_cases hb : nth x k < q + nth y k
        · go_wp2
          go_roundw
          case rel =>
            obtain ⟨x3, x4, y3, y4, xlo, ylo, hown, hlo2, hbel, hval⟩ := H.out
            skip
            refine ⟨k + 1, 1, L.set k (nth x k + 1000000000 - (q + nth y k)), by omega, by go_num, rfl, by omega, hown.store' k _ _ (by omega) (by omega), lo_set (by rw [hown.len]; omega) hlo2 (by omega), sub_step L x y k q 1 _ (by rw [hown.len]; omega) hval (by omega), hbel.setCell (Nat.le_refl _) _⟩
          case measure => simp [intOf]; omega
        · go_wp2
          go_roundw
          case rel =>
            obtain ⟨x3, x4, y3, y4, xlo, ylo, hown, hlo2, hbel, hval⟩ := H.out
            skip
            refine ⟨k + 1, 0, L.set k (nth x k - (q + nth y k)), by omega, by go_num, rfl, by omega, hown.store' k _ _ (by omega) (by omega), lo_set (by rw [hown.len]; omega) hlo2 (by omega), sub_step L x y k q 0 _ (by rw [hown.len]; omega) hval (by omega), hbel.setCell (Nat.le_refl _) _⟩
          case measure => simp [intOf]; omega
      · have hr0 : nth y k = 0 := nth_out (by omega)
        have HR := Lib.hid hr0
        clear hr hr0
        have H := Lib.hid (And.intro x3 (And.intro x4 (And.intro y3 (And.intro y4 (And.intro xlo (And.intro ylo (And.intro hown (And.intro hlo2 (And.intro hbel hval)))))))))
        clear hval x3 x4 y3 y4 xlo ylo hown hlo2 hbel
        by_cases hb : nth x k < q
        · go_wp2
          go_roundw
          case rel =>
            obtain ⟨x3, x4, y3, y4, xlo, ylo, hown, hlo2, hbel, hval⟩ := H.out
            have hr0 := HR.out
            refine ⟨k + 1, 1, L.set k (nth x k + 1000000000 - (q)), by omega, by go_num, rfl, by omega, hown.store' k _ _ (by omega) (by omega), lo_set (by rw [hown.len]; omega) hlo2 (by omega), sub_step L x y k q 1 _ (by rw [hown.len]; omega) hval (by omega), hbel.setCell (Nat.le_refl _) _⟩
          case measure => simp [intOf]; omega
        · go_wp2
          go_roundw
          case rel =>
            obtain ⟨x3, x4, y3, y4, xlo, ylo, hown, hlo2, hbel, hval⟩ := H.out
            have hr0 := HR.out
            refine ⟨k + 1, 0, L.set k (nth x k - (q)), by omega, by go_num, rfl, by omega, hown.store' k _ _ (by omega) (by omega), lo_set (by rw [hown.len]; omega) hlo2 (by omega), sub_step L x y k q 0 _ (by rw [hown.len]; omega) hval (by omega), hbel.setCell (Nat.le_refl _) _⟩
          case measure => simp [intOf]; omega
    · obtain rfl : x.length = k := by omega
      have H := Lib.hid (And.intro x3 (And.intro x4 (And.intro y3 (And.intro y4 (And.intro xlo (And.intro ylo (And.intro hown (And.intro hlo2 (And.intro hval hbel)))))))))
      clear hval x3 x4 y3 y4 xlo ylo hown hlo2 hbel
      go_wp2_with fail
      obtain ⟨x3, x4, y3, y4, xlo, ylo, hown, hlo2, hval, hbel⟩ := H.out
      have hlo3 : Lo L := lo_of fun i hi => hlo2 i (by rw [← hown.len]; exact hi)
      refine (cut_new _ _ _ hown.lim hlo3 (by rw [hown.len]; exact xn)).mono ?_
      rintro e w' ⟨v', rfl, hnt, hbc, hfr⟩
      have hf2 : Fresh w v' := fun k h => Nat.le_trans hbel.size (hfr k h)
      obtain ⟨hxy, hle⟩ := HXY.out
      have e0 := val_lt hlo3
      rw [hown.len] at e0
      rw [show x.length = L.length by rw [hown.len], List.take_length, hown.len, List.take_of_length_le hxy, List.take_length] at hval
      have e1 : val L = val x - val y := by
        rcases Nat.lt_or_ge q 1 with h | h
        · obtain rfl : q = 0 := by omega
          omega
        · obtain rfl : q = 1 := by omega
          omega
      rw [e1] at hnt
      have HE := Lib.hid (And.intro hnt (And.intro (below_next' hbel hbc) hf2))
      clear e1 e0 hval hnt hbel hbc hfr hf2 hown hlo2 hlo3 hxy hle
      go_wp2
      go_ret
      obtain ⟨hnt, hbel, hf2⟩ := HE.out
      exact ⟨v', rfl, hnt, hbel, hf2⟩

theorem natSub_new {w : World} {u v : Value} {x y k : Nat} (hu : Nt w u x) (hv : Nt w v y) (hx : x < pw k) (hk : k ≤ 1000000) (hle : y ≤ x) : Calls Try.prog 89 #[u, v] w (NtN (x - y) w) := by
  obtain ⟨l1, h1, c1, rfl⟩ := hu
  obtain ⟨l2, h2, c2, rfl⟩ := hv
  have n1 := cano_len c1 hx
  have n2 : l2.length ≤ l1.length := by
    rcases Nat.lt_or_ge l1.length l2.length with h | h
    · have := can_len_lt c1 c2 h
      omega
    · exact h
  exact natSub_lim u v l1 l2 w h1 h2 c1.1 c2.1 (by omega) n2 hle
theorem natSub_any {w : World} {u v : Value} {x y k : Nat} (hu : Nt w u x) (hv : Nt w v y) (hx : x < pw k) (hk : k ≤ 1000000) (hle : y ≤ x) : Calls Try.prog 89 #[u, v] w (NtP (x - y) w) :=
  (natSub_new hu hv hx hk hle).mono fun _ _ ⟨v', he, hn, hb, _⟩ => ⟨v', he, hn, hb⟩

/-- The quotient in memory and the rest. -/
def NatSmallP (x c : Nat) (w : World) (e : Ending) (w' : World) : Prop :=
  ∃ v, e = .returned (.tuple #[v, .int .u64 ((x % c : Nat) : Int)]) ∧ Nt w' v (x / c) ∧ Below w.heap.size w w'

set_option maxHeartbeats 1000000 in
theorem natSmall_lim (v : Value) (l : List Nat) (c : Nat) (w : World) (h : Lim w v l) (hlo : Lo l) (hn : l.length ≤ 1000000) (hc0 : 0 < c) (hc1 : c < 1000000000) :
    Calls Try.prog 126 #[v, .int .u64 c] w (NatSmallP (val l) c w) := by
  obtain ⟨a, cap, rfl, h1, h2, h3, h4⟩ := h
  obtain ⟨i0, hi, hz0, hz1, hz2⟩ := info_parts Try.info58
  go_enter Try.func126, Try.ntmps126
  go_wp2_with (at_make; refine wpList_make_full _ rfl _ _ 22 rfl w.heap.size 58 i0 (.int .u32 0) 1 Try.underlying22 hi hz0 hz1 _ _ _ _ l.length rfl rfl (by omega) (by omega) ?b2 ?b3 (Nat.le_refl _) ?_)
  case b2 => rw [hz2]; omega
  case b3 => unfold maxLen; omega
  intro w0 hown0 hgrow0
  have hown : Own w0 w.heap.size w.heap.size l.length (List.replicate l.length 0) := own_made hown0 (by omega)
  have hbel : Below w.heap.size w w0 := (Below.refl _ _).grown hgrow0 (Nat.le_refl _) (fun k h => by cases h)
  clear hown0 hgrow0 hi hz0 hz1 hz2
  go_wp2
  go_loopw [7, 8] (fun s i wr => ∃ (q : Int) (r : Nat) (L : List Nat), i = .int .i64 q ∧ -1 ≤ q ∧ q < l.length ∧ s = .int .u64 r ∧ r < c ∧ Own wr w.heap.size w.heap.size l.length L ∧ Lo L ∧
      val (l.drop (q + 1).toNat) = c * val (L.drop (q + 1).toNat) + r ∧ Below w.heap.size w wr) (fun _ i _ => (intOf i + 1).toNat)
  case atStart => exact ⟨_, 0, _, rfl, by omega, by omega, rfl, by omega, hown, lo_replicate _, by rw [List.drop_of_length_le (by omega), List.drop_of_length_le (by simp)]; simp [val], hbel⟩
  case round =>
    obtain ⟨q, r, L, rfl, g1, g2, rfl, hr, hown, hlo2, hval, hbel⟩ := hrel
    by_cases hq : q = -1
    · subst hq
      have H := Lib.hid (And.intro h3 (And.intro h4 (And.intro hown (And.intro hlo2 (And.intro hlo (And.intro hval hbel))))))
      clear hval h3 h4 hown hlo hlo2 hbel
      go_wp2_with fail
      obtain ⟨h3, h4, hown, hlo2, hlo, hval, hbel⟩ := H.out
      refine (cut_any _ _ _ hown.lim hlo2 (by rw [hown.len]; exact hn)).mono ?_
      rintro e w' ⟨v', rfl, hnt, hbc⟩
      have e1 : val l = c * val L + r := by simpa using hval
      have e2 : val l / c = val L := by rw [e1, Nat.mul_add_div hc0, Nat.div_eq_of_lt hr, Nat.add_zero]
      have e3 : val l % c = r := by rw [e1, Nat.mul_add_mod, Nat.mod_eq_of_lt hr]
      have HE := Lib.hid (And.intro e1 (And.intro e2 (And.intro e3 (And.intro hnt (And.intro hval (below_next' hbel hbc))))))
      clear e1 e2 e3 hval hnt hbel hbc hlo hlo2 hown
      go_wp2
      go_ret2
      obtain ⟨e1, e2, e3, hnt, hval, hbel⟩ := HE.out
      exact ⟨v', by rw [e3]; rfl, by rw [e2]; exact hnt, hbel⟩
    · obtain ⟨j, rfl⟩ : ∃ j : Nat, q = j := ⟨q.toNat, by omega⟩
      obtain ⟨b, o, rfl, hcell⟩ := h4 j (by omega)
      have hcell := (hbel.cell (World.block_lt_of_cell? w _ hcell)).trans hcell
      rw [toNat_up] at hval
      have HS := Lib.hid (divlimb_step L l j c r _ (by rw [hown.len]; omega) (by omega) hval rfl)
      have hfr := hown.frozen j
      have hold := hown.cell j (by omega)
      have hx := hlo j
      have hq1 := quo_lt (r := r) (c := c) (x := nth l j) hr (hlo j)
      have hq2 : ((r : Int) * 1000000000 + (nth l j : Int)) / (c : Int) < 1000000000 := by
        have : (((r * 1000000000 + nth l j) / c : Nat) : Int) < 1000000000 := by omega
        simpa using this
      have hq3 : 0 ≤ ((r : Int) * 1000000000 + (nth l j : Int)) / (c : Int) := Int.ediv_nonneg (by omega) (by omega)
      have hm1 := Nat.mod_lt (r * 1000000000 + nth l j) hc0
      have H := Lib.hid (And.intro h3 (And.intro h4 (And.intro hown (And.intro hlo2 (And.intro hlo hbel)))))
      clear hval h3 h4 hown hlo hlo2 hbel
      go_wp2
      go_roundw
      case rel =>
        obtain ⟨h3, h4, hown, hlo2, hlo, hbel⟩ := H.out
        refine ⟨(j : Int) - 1, (r * 1000000000 + nth l j) % c, L.set j ((r * 1000000000 + nth l j) / c), rfl, by omega, by omega, by go_num, hm1, ?_, lo_set_drop (by rw [hown.len]; omega) hlo2 hq1, ?_, hbel.setCell (Nat.le_refl _) _⟩
        · have := hown.store j ((r * 1000000000 + nth l j) / c) (by omega)
          simpa using this
        · rw [show ((j : Int) - 1 + 1).toNat = j by omega]; exact HS.out
      case measure => simp [intOf]

end Go.Proofs.Ytdpiclmjdcjajaa

/-
  The reference's walks of natMul and natAdd.
-/
namespace Go.Proofs.Ytdpiclmjdcjajaa
open Go.RowKit Num

theorem row_end {L L0 x y : List Nat} {k m j : Nat} (hm : y.length = m) (hj : j = m ∨ j = m + 1) (hz : ∀ p, k + j ≤ p → nth L p = nth L0 p) (hz0 : ∀ p, k + m ≤ p → nth L0 p = 0)
    (h : val (L.take (k + j)) = val (L0.take (k + j)) + pw k * (nth x k * val (y.take j))) (h0 : val (L0.take (k + m)) = val (x.take k) * val y) :
    val (L.take (k + 1 + m)) = val (x.take (k + 1)) * val y := by
  have hy : val (y.take j) = val y := by rw [List.take_of_length_le (by omega)]
  rw [hy] at h
  have e : val (x.take (k + 1)) * val y = val (x.take k) * val y + pw k * (nth x k * val y) := by
    rw [val_take_succ', Nat.add_mul, Nat.mul_assoc]
  rw [e]
  rcases hj with rfl | rfl
  · rw [show k + 1 + j = k + j + 1 by omega, val_take_succ', hz _ (Nat.le_refl _), hz0 _ (Nat.le_refl _), h, h0]
    simp
  · rw [show k + 1 + m = k + (m + 1) by omega, h, show k + (m + 1) = k + m + 1 by omega, val_take_succ', hz0 _ (Nat.le_refl _), h0]
    simp

theorem mul_step' (L L0 y : List Nat) (i j c a : Nat) (hk : i + j < L.length) (h : val (L.take (i + j)) + pw (i + j) * c = val (L0.take (i + j)) + pw i * (a * val (y.take j))) (he : nth L (i + j) = nth L0 (i + j)) :
    val ((L.set (i + j) ((c + nth L (i + j) + a * nth y j) % 1000000000)).take (i + j + 1)) + pw (i + j + 1) * ((c + nth L (i + j) + a * nth y j) / 1000000000) = val (L0.take (i + j + 1)) + pw i * (a * val (y.take (j + 1))) := by
  rw [Nat.add_assoc c]
  exact mul_step L L0 y i j c a hk h he

set_option maxHeartbeats 4000000 in
theorem natMul_lim (u v : Value) (x y : List Nat) (w : World) (hx : Lim w u x) (hy : Lim w v y) (xlo : Lo x) (ylo : Lo y) (xn : x.length ≤ 100000) (yn : y.length ≤ 100000) :
    Calls Try.prog 86 #[u, v] w (NtP (val x * val y) w) := by
  obtain ⟨ax, capx, rfl, x1, x2, x3, x4⟩ := hx
  obtain ⟨ay, capy, rfl, y1, y2, y3, y4⟩ := hy
  obtain ⟨i0, hi, hz0, hz1, hz2⟩ := info_parts Try.info58
  go_enter Try.func86, Try.ntmps86
  go_wp2_with (at_make; refine wpList_make_full _ rfl _ _ 22 rfl w.heap.size 58 i0 (.int .u32 0) 1 Try.underlying22 hi hz0 hz1 _ _ _ _ (x.length + y.length + 1) rfl rfl (by omega) (by omega) ?b2 ?b3 (Nat.le_refl _) ?_)
  case b2 => rw [hz2]; omega
  case b3 => unfold maxLen; omega
  intro w0 hown0 hgrow0
  have hown : Own w0 w.heap.size w.heap.size (x.length + y.length + 1) (List.replicate (x.length + y.length + 1) 0) := own_made hown0 (by omega)
  have hbel : Below w.heap.size w w0 := (Below.refl _ _).grown hgrow0 (Nat.le_refl _) (fun k h => by cases h)
  clear hown0 hgrow0 hi hz0 hz1 hz2
  go_wp2
  go_loopw [6, 7, 8] (fun i s7 s8 wr => ∃ (k : Nat) (L : List Nat), k ≤ x.length ∧ i = .int .i64 k ∧ Own wr w.heap.size w.heap.size (x.length + y.length + 1) L ∧ Lo L ∧ (∀ j, k + y.length ≤ j → nth L j = 0) ∧
      val (L.take (k + y.length)) = val (x.take k) * val y ∧ Below w.heap.size w wr) (fun i _ _ _ => x.length - (intOf i).toNat)
  case atStart => exact ⟨0, _, Nat.zero_le _, rfl, hown, lo_replicate _, fun j _ => nth_replicate _ j, by rw [val_zeros (fun i _ => by rw [nth_take, nth_replicate]; simp)]; simp [val], hbel⟩
  case round =>
    obtain ⟨k, L0, hk, rfl, hown, hlo, hz, hval, hbel⟩ := hrel
    obtain ⟨wo, rfl⟩ : ∃ wo : World, wo = wr := ⟨_, rfl⟩
    by_cases hlt : k < x.length
    · obtain ⟨b, o, rfl, hcellx⟩ := x4 k hlt
      have HO := Lib.hid (And.intro x3 (And.intro x4 (And.intro y3 (And.intro hown (And.intro hlo (And.intro hz (And.intro hval hbel)))))))
      have hp := xlo k
      clear x3 x4 y3 hz hval
      go_wp2
      go_loopw [7, 8] (fun c i wr => ∃ (j q : Nat) (L : List Nat), j ≤ y.length + 1 ∧ (j = y.length + 1 → q = 0) ∧ i = .int .i64 j ∧ c = .int .u64 q ∧ q < 1000000000 ∧ Own wr w.heap.size w.heap.size (x.length + y.length + 1) L ∧ Lo L ∧ (∀ p, k + j ≤ p → nth L p = nth L0 p) ∧
          val (L.take (k + j)) + pw (k + j) * q = val (L0.take (k + j)) + pw k * (nth x k * val (y.take j)) ∧ Below w.heap.size w wr) (fun _ i _ => y.length + 1 - (intOf i).toNat)
      case atStart => exact ⟨0, 0, L0, Nat.zero_le _, fun _ => rfl, rfl, rfl, by omega, hown, hlo, fun p _ => rfl, by simp [val], hbel⟩
      case round =>
        obtain ⟨j, q, L, hj, hj1, rfl, rfl, hq, hown, hlo, hz, hval, hbel⟩ := hrel
        by_cases hlt2 : j < y.length
        · obtain ⟨b2, o2, rfl, hcelly⟩ := y4 j hlt2
          have hcx := (hbel.cell (World.block_lt_of_cell? w _ hcellx)).trans hcellx
          have hcy := (hbel.cell (World.block_lt_of_cell? w _ hcelly)).trans hcelly
          have hfr := hown.frozen (k + j)
          have hold := hown.cell (k + j) (by omega)
          have HS := Lib.hid (mul_step' L L0 y k j q (nth x k) (by rw [hown.len]; omega) hval (hz _ (Nat.le_refl _)))
          have hl := hlo (k + j)
          have hr := ylo j
          have hm := mul_bound hp hr hq hl
          rw [← Nat.add_assoc] at hm
          have H := Lib.hid (And.intro y4 (And.intro xlo (And.intro ylo (And.intro hown (And.intro hlo (And.intro hz hbel))))))
          clear hval y4 xlo ylo hown hlo hz hbel hcelly hj1
          go_wp2
          go_quiet (fail)
          go_wp2
          go_roundw
          case rel =>
            obtain ⟨y4, xlo, ylo, hown, hlo, hz, hbel⟩ := H.out
            refine ⟨j + 1, (q + nth L (k + j) + nth x k * nth y j) / 1000000000, L.set (k + j) ((q + nth L (k + j) + nth x k * nth y j) % 1000000000), by omega, by omega, by go_num, by go_num, by omega, ?_, lo_set_drop (by rw [hown.len]; omega) hlo (by omega), ?_, HS.out, ?_⟩
            · exact (hown.drewN _).store' (k + j) _ _ (by simp) (by omega)
            · intro p hp
              rw [nth_set _ _ _ _ (by rw [hown.len]; omega), if_neg (by omega)]
              exact hz p (by omega)
            · exact (below_drewN hbel _).setCell (Nat.le_refl _) _
          case measure => simp [intOf]; omega
        · by_cases hq0 : q = 0
          · subst hq0
            obtain ⟨x3, x4, y3, hown0, hlo0, hz0, hval0, hbel0⟩ := HO.out
            have hrow := row_end (x := x) (y := y) rfl (by omega : j = y.length ∨ j = y.length + 1) hz hz0 (by rw [Nat.mul_zero, Nat.add_zero] at hval; exact hval) hval0
            have H := Lib.hid (And.intro xlo (And.intro ylo (And.intro hown (And.intro hlo (And.intro hz (And.intro hbel (And.intro hrow hz0)))))))
            clear x3 x4 y3 hown0 hlo0 hz0 hval0 hbel0 y4 xlo ylo hown hlo hz hbel hval hcellx hrow hj1
            go_wp2
            go_roundw
            case rel =>
              obtain ⟨xlo, ylo, hown, hlo, hz, hbel, hrow, hz0⟩ := H.out
              refine ⟨k + 1, L, by omega, by go_num, hown, hlo, fun p hp => ?_, hrow, hbel⟩
              rw [hz p (by omega)]
              exact hz0 p (by omega)
            case measure => simp [intOf]; omega
          · obtain rfl : y.length = j := by omega
            have hpos : 0 < q := by omega
            have hfr := hown.frozen (k + y.length)
            have hold := hown.cell (k + y.length) (by omega)
            have hL0 : nth L (k + y.length) = 0 := by
              rw [hz _ (Nat.le_refl _)]
              exact HO.out.2.2.2.2.2.1 _ (Nat.le_refl _)
            have hy0 : nth y y.length = 0 := nth_out (Nat.le_refl _)
            have hms := mul_step' L L0 y k y.length q (nth x k) (by rw [hown.len]; omega) hval (hz _ (Nat.le_refl _))
            rw [hL0, hy0] at hms
            simp only [Nat.mul_zero, Nat.add_zero] at hms
            rw [Nat.mod_eq_of_lt hq, Nat.div_eq_of_lt hq] at hms
            rw [hL0] at hold
            have HS := Lib.hid hms
            have H := Lib.hid (And.intro y4 (And.intro xlo (And.intro ylo (And.intro hown (And.intro hlo (And.intro hz hbel))))))
            clear hval y4 xlo ylo hown hlo hz hbel hj1 hL0 hy0 hms hq0
            go_wp2
            go_roundw
            case rel =>
              obtain ⟨y4, xlo, ylo, hown, hlo, hz, hbel⟩ := H.out
              refine ⟨y.length + 1, 0, L.set (k + y.length) q, by omega, fun _ => rfl, by go_num, by go_num, by omega, ?_, lo_set_drop (by rw [hown.len]; omega) hlo (by omega), ?_, HS.out, ?_⟩
              · exact hown.store' (k + y.length) _ _ (by first | rfl | omega) (by omega)
              · intro p hp
                rw [nth_set _ _ _ _ (by rw [hown.len]; omega), if_neg (by omega)]
                exact hz p (by omega)
              · exact hbel.setCell (Nat.le_refl _) _
            case measure => simp [intOf]
    · obtain rfl : x.length = k := by omega
      have H := Lib.hid (And.intro x3 (And.intro x4 (And.intro y3 (And.intro y4 (And.intro xlo (And.intro ylo (And.intro hown (And.intro hlo (And.intro hz (And.intro hval hbel))))))))))
      clear hval x3 x4 y3 y4 xlo ylo hown hlo hz hbel
      go_wp2_with fail
      obtain ⟨x3, x4, y3, y4, xlo, ylo, hown, hlo, hz, hval, hbel⟩ := H.out
      refine (cut_any _ _ _ hown.lim hlo (by rw [hown.len]; omega)).mono ?_
      rintro e w' ⟨v', rfl, hnt, hbc⟩
      have hvv : val L0 = val x * val y := by
        rw [← val_take_zeros (x.length + y.length) (by rw [hown.len]; omega) (fun i hi => hz i hi), hval, List.take_length]
      rw [hvv] at hnt
      have HE := Lib.hid (And.intro hnt (below_next' hbel hbc))
      clear hval hnt hbel hown hlo hz hbc hvv
      go_wp2
      go_ret
      obtain ⟨hnt, hbel⟩ := HE.out
      exact ⟨v', rfl, hnt, hbel⟩

theorem natMul_any {w : World} {u v : Value} {x y k : Nat} (hu : Nt w u x) (hv : Nt w v y) (hx : x < pw k) (hy : y < pw k) (hk : k ≤ 100000) : Calls Try.prog 86 #[u, v] w (NtP (x * y) w) := by
  obtain ⟨l1, h1, c1, rfl⟩ := hu
  obtain ⟨l2, h2, c2, rfl⟩ := hv
  have n1 := cano_len c1 hx
  have n2 := cano_len c2 hy
  exact natMul_lim u v l1 l2 w h1 h2 c1.1 c2.1 (by omega) (by omega)

/-- A list of limbs that reads as a number. -/
def SumP (x n : Nat) (w : World) (e : Ending) (w' : World) : Prop := ∃ v L, e = .returned v ∧ Lim w' v L ∧ val L = x ∧ L.length ≤ n ∧ Below w.heap.size w w'

theorem addr_step (L a b : List Nat) (k c : Nat) (hL : L.length = k) (h : val L + pw k * c = val (a.take k) + val (b.take k)) :
    val (L ++ [(c + nth a k + nth b k) % 1000000000]) + pw (k + 1) * ((c + nth a k + nth b k) / 1000000000) = val (a.take (k + 1)) + val (b.take (k + 1)) := by
  have := snoc_step L (c + nth a k + nth b k)
  rw [hL] at this
  rw [this, val_take_succ', val_take_succ', Nat.mul_add, Nat.mul_add]
  omega

set_option maxHeartbeats 4000000 in
theorem natAdd_lim (u v : Value) (x y : List Nat) (w : World) (hx : Lim w u x) (hy : Lim w v y) (xlo : Lo x) (ylo : Lo y) (xn : x.length ≤ 100000) (yn : y.length ≤ 100000) :
    Calls Try.prog 87 #[u, v] w (SumP (val x + val y) (x.length + y.length + 1) w) := by
  obtain ⟨ax, capx, rfl, _, _, _, x4⟩ := hx
  obtain ⟨ay, capy, rfl, _, _, _, y4⟩ := hy
  obtain ⟨i0, hi, hz0, hz1, hz2⟩ := info_parts Try.info58
  go_enter Try.func87, Try.ntmps87
  go_wp2
  go_loopw [5, 6, 7, 8] (fun s c i t wr => ∃ (k q : Nat) (L : List Nat), k ≤ x.length + y.length + 1 ∧ (x.length < k → y.length < k → q = 0) ∧ i = .int .i64 k ∧ c = .int .u32 q ∧ q ≤ 1 ∧ L.length = k ∧ wr.ownsRow w.heap.size 58 1 s k (lims L) ∧ Lo L ∧ val L + pw k * q = val (x.take k) + val (y.take k) ∧ Below w.heap.size w wr)
    (fun _ _ i _ _ => x.length + y.length + 2 - (intOf i).toNat)
  case atStart => exact ⟨0, 0, [], Nat.zero_le _, fun _ _ => rfl, rfl, rfl, by omega, rfl, World.ownsRow_nil _ _ _ _, fun i => by rw [nth_nil]; omega, by simp [val], Below.refl _ _⟩
  case round =>
    obtain ⟨k, q, L, hk, hkq, rfl, rfl, hq, hL, hown, hlo, hval, hbel⟩ := hrel
    have hs := hbel.size
    have HS := Lib.hid (addr_step L x y k q hL hval)
    have hp := xlo k
    have hr := ylo k
    have HV := Lib.hid hval
    clear hval
    by_cases hltx : k < x.length
    · obtain ⟨b, o, rfl, hcell⟩ := x4 k hltx
      have hcx := (hbel.cell (World.block_lt_of_cell? w _ hcell)).trans hcell
      by_cases hlty : k < y.length
      · obtain ⟨b2, o2, rfl, hcell2⟩ := y4 k hlty
        have hcy := (hbel.cell (World.block_lt_of_cell? w _ hcell2)).trans hcell2
        have H := Lib.hid (And.intro x4 (And.intro y4 (And.intro xlo (And.intro ylo (And.intro hL (And.intro hlo (And.intro HV.out (And.intro hbel hkq))))))))
        clear x4 y4 xlo ylo hL hlo hbel hcell hcell2 hkq
        go_wp2_with (at_builtin; refine wpList_append_own _ rfl _ _ 22 rfl w.heap.size 58 i0 (.int .u32 0) 1 4 Try.underlying22 hi hz0 hz1 hz2 rfl (by decide) _ _ _ rfl (hown.alloc _) ⟨wr.heap.size, 0, none⟩ 1 1 [.int .u32 (((q + nth x k + nth y k) % 1000000000 : Nat) : Int)] rfl rfl ?c1 ?c2 ?c3 ?c4 ?c5 ?_)
        case c1 =>
          intro j u hj
          match j, hj with
          | 0, hj => simp at hj; subst hj; simp [Addr.add]
        case c2 => intro u hu; simp at hu; subst hu; rfl
        case c3 => unfold maxLen; omega
        case c4 => omega
        case c5 => simp; omega
        intro v' w1 hown' hgrow _
        have H2 := Lib.hid (And.intro hown' (And.intro hgrow hown))
        clear hown' hgrow hown
        go_wp2
        go_roundw
        case rel =>
          obtain ⟨x4, y4, xlo, ylo, hL, hlo, hval, hbel, hkq⟩ := H.out
          clear hval
          obtain ⟨hown', hgrow, hown⟩ := H2.out
          refine ⟨k + 1, (q + nth x k + nth y k) / 1000000000, L ++ [(q + nth x k + nth y k) % 1000000000], by omega, by omega, by go_num, by go_num, by omega, by simp [hL], ?_, lo_snoc hlo (by omega), HS.out, (hbel.alloc hs _).grown hgrow (by simp; omega) (fun k hk => (hown.lt k hk).1)⟩
          rw [← lims_append]; simpa [lims] using hown'
        case measure => simp [intOf]; omega
      · have hy0 : nth y k = 0 := nth_out (by omega)
        have hys : nth x k + 0 = nth x k := rfl
        rw [hy0] at HS
        have H := Lib.hid (And.intro x4 (And.intro y4 (And.intro xlo (And.intro ylo (And.intro hL (And.intro hlo (And.intro HV.out (And.intro hbel hkq))))))))
        clear x4 y4 xlo ylo hL hlo hbel hcell hkq hy0 hr hys
        go_wp2_with (at_builtin; refine wpList_append_own _ rfl _ _ 22 rfl w.heap.size 58 i0 (.int .u32 0) 1 4 Try.underlying22 hi hz0 hz1 hz2 rfl (by decide) _ _ _ rfl (hown.alloc _) ⟨wr.heap.size, 0, none⟩ 1 1 [.int .u32 (((q + nth x k) % 1000000000 : Nat) : Int)] rfl rfl ?c1 ?c2 ?c3 ?c4 ?c5 ?_)
        case c1 =>
          intro j u hj
          match j, hj with
          | 0, hj => simp at hj; subst hj; simp [Addr.add]
        case c2 => intro u hu; simp at hu; subst hu; rfl
        case c3 => unfold maxLen; omega
        case c4 => omega
        case c5 => simp; omega
        intro v' w1 hown' hgrow _
        have H2 := Lib.hid (And.intro hown' (And.intro hgrow hown))
        clear hown' hgrow hown
        go_wp2
        go_roundw
        case rel =>
          obtain ⟨x4, y4, xlo, ylo, hL, hlo, hval, hbel, hkq⟩ := H.out
          clear hval
          obtain ⟨hown', hgrow, hown⟩ := H2.out
          refine ⟨k + 1, (q + nth x k) / 1000000000, L ++ [(q + nth x k) % 1000000000], by omega, by omega, by go_num, by go_num, by omega, by simp [hL], ?_, lo_snoc hlo (by omega), by have := HS.out; simpa using this, (hbel.alloc hs _).grown hgrow (by simp; omega) (fun k hk => (hown.lt k hk).1)⟩
          rw [← lims_append]; simpa [lims] using hown'
        case measure => simp [intOf]; omega
    · have hx0 : nth x k = 0 := nth_out (by omega)
      rw [hx0] at HS
      by_cases hlty : k < y.length
      · obtain ⟨b2, o2, rfl, hcell2⟩ := y4 k hlty
        have hcy := (hbel.cell (World.block_lt_of_cell? w _ hcell2)).trans hcell2
        have H := Lib.hid (And.intro x4 (And.intro y4 (And.intro xlo (And.intro ylo (And.intro hL (And.intro hlo (And.intro HV.out (And.intro hbel hkq))))))))
        clear x4 y4 xlo ylo hL hlo hbel hcell2 hkq hx0 hp
        go_wp2_with (at_builtin; refine wpList_append_own _ rfl _ _ 22 rfl w.heap.size 58 i0 (.int .u32 0) 1 4 Try.underlying22 hi hz0 hz1 hz2 rfl (by decide) _ _ _ rfl (hown.alloc _) ⟨wr.heap.size, 0, none⟩ 1 1 [.int .u32 (((q + nth y k) % 1000000000 : Nat) : Int)] rfl rfl ?c1 ?c2 ?c3 ?c4 ?c5 ?_)
        case c1 =>
          intro j u hj
          match j, hj with
          | 0, hj => simp at hj; subst hj; simp [Addr.add]
        case c2 => intro u hu; simp at hu; subst hu; rfl
        case c3 => unfold maxLen; omega
        case c4 => omega
        case c5 => simp; omega
        intro v' w1 hown' hgrow _
        have H2 := Lib.hid (And.intro hown' (And.intro hgrow hown))
        clear hown' hgrow hown
        go_wp2
        go_roundw
        case rel =>
          obtain ⟨x4, y4, xlo, ylo, hL, hlo, hval, hbel, hkq⟩ := H.out
          clear hval
          obtain ⟨hown', hgrow, hown⟩ := H2.out
          refine ⟨k + 1, (q + nth y k) / 1000000000, L ++ [(q + nth y k) % 1000000000], by omega, by omega, by go_num, by go_num, by omega, by simp [hL], ?_, lo_snoc hlo (by omega), by have := HS.out; simpa using this, (hbel.alloc hs _).grown hgrow (by simp; omega) (fun k hk => (hown.lt k hk).1)⟩
          rw [← lims_append]; simpa [lims] using hown'
        case measure => simp [intOf]; omega
      · have hy0 : nth y k = 0 := nth_out (by omega)
        rw [hy0] at HS
        by_cases hq0 : q = 0
        · subst hq0
          have H := Lib.hid (And.intro hL (And.intro hlo (And.intro HV.out hbel)))
          have htx : val (x.take k) = val x := by rw [List.take_of_length_le (by omega)]
          have hty : val (y.take k) = val y := by rw [List.take_of_length_le (by omega)]
          have HT := Lib.hid (And.intro htx hty)
          clear x4 y4 xlo ylo hL hlo hbel hkq hx0 hp hy0 hr htx hty
          go_wp2
          go_ret
          obtain ⟨hL, hlo, hval, hbel⟩ := H.out
          refine ⟨_, L, rfl, lim_owns hown hL (fun i => Nat.lt_trans (hlo i) (by decide)), ?_, Nat.le_trans (Nat.le_of_eq hL) hk, hbel⟩
          rw [HT.out.1, HT.out.2, Nat.mul_zero, Nat.add_zero] at hval
          exact hval
        · obtain rfl : q = 1 := by omega
          have hkb : k ≤ x.length + y.length := by
            rcases Nat.lt_or_ge x.length k with h | h
            · rcases Nat.lt_or_ge y.length k with h' | h'
              · have := hkq h h'
                omega
              · omega
            · omega
          have H := Lib.hid (And.intro x4 (And.intro y4 (And.intro xlo (And.intro ylo (And.intro hL (And.intro hlo (And.intro HV.out (And.intro hbel hkq))))))))
          have hs1 := HS.out
          rw [show (1 + 0 + 0) % 1000000000 = 1 from rfl, show (1 + 0 + 0) / 1000000000 = 0 from rfl] at hs1
          clear HS
          have HS := Lib.hid hs1
          clear hs1
          clear x4 y4 xlo ylo hL hlo hbel hkq hx0 hp hy0 hr hq0
          go_wp2_with (at_builtin; refine wpList_append_own _ rfl _ _ 22 rfl w.heap.size 58 i0 (.int .u32 0) 1 4 Try.underlying22 hi hz0 hz1 hz2 rfl (by decide) _ _ _ rfl (hown.alloc _) ⟨wr.heap.size, 0, none⟩ 1 1 [.int .u32 1] rfl rfl ?c1 ?c2 ?c3 ?c4 ?c5 ?_)
          case c1 =>
            intro j u hj
            match j, hj with
            | 0, hj => simp at hj; subst hj; simp [Addr.add]
          case c2 => intro u hu; simp at hu; subst hu; rfl
          case c3 => unfold maxLen; omega
          case c4 => omega
          case c5 => simp; omega
          intro v' w1 hown' hgrow _
          have H2 := Lib.hid (And.intro hown' (And.intro hgrow hown))
          clear hown' hgrow hown
          go_wp2
          go_roundw
          case rel =>
            obtain ⟨x4, y4, xlo, ylo, hL, hlo, hval, hbel, hkq⟩ := H.out
            clear hval
            obtain ⟨hown', hgrow, hown⟩ := H2.out
            refine ⟨k + 1, 0, L ++ [1], by omega, fun _ _ => rfl, by go_num, by go_num, by omega, by simp [hL], ?_, lo_snoc hlo (by omega), HS.out, (hbel.alloc hs _).grown hgrow (by simp; omega) (fun k hk => (hown.lt k hk).1)⟩
            rw [← lims_append]; simpa [lims] using hown'
          case measure => simp [intOf]; omega

end Go.Proofs.Ytdpiclmjdcjajaa
