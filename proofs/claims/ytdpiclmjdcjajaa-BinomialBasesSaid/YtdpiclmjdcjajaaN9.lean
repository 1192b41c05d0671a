/-
  The walk of takeMultiple: a stretch of an owned row, limbs below the base, a divisor of at least two limbs whose last is not 0, a quotient below the base.
-/
import Derived.Test.YtdpiclmjdcjajaaN8
import Derived.Deep.DeepCutAuto
import Derived.Deep.CutBlock
namespace Go.Proofs.Ytdpiclmjdcjajaa
open Go.RowKit Num

theorem tq_all (T f : Nat) : T = T / f * f + (T - T / f * f) := by have := Nat.div_mul_le_self T f; omega

/-- The first guess. -/
def GuessR0 (X D : List Nat) (m : Nat) (w : World) (s9 : Value) (wx : World) : Prop :=
  ∃ G n : Nat, s9 = .int .u64 G ∧ val X / val D ≤ G ∧ G ≤ 999999999 ∧ G * nth D (m + 1) ≤ nth X (m + 2) * 1000000000 + nth X (m + 1) ∧ wx = w.drewN n
/-- The guess and what is left. -/
def GuessR (X D : List Nat) (m : Nat) (s9 s10 : Value) : Prop :=
  ∃ G r : Nat, s9 = .int .u64 G ∧ s10 = .int .u64 r ∧ val X / val D ≤ G ∧ G ≤ 999999999 ∧ nth X (m + 2) * 1000000000 + nth X (m + 1) = G * nth D (m + 1) + r
/-- The last guess. -/
def GuessR1 (X D : List Nat) (w : World) (s9 : Value) (wx : World) : Prop :=
  ∃ G n : Nat, s9 = .int .u64 G ∧ G ≤ 999999999 ∧ val X / val D ≤ G ∧ G ≤ val X / val D + 1 ∧ wx = w.drewN n

def TakeP (B g N : Nat) (pre X post D : List Nat) (w : World) (e : Ending) (w' : World) : Prop :=
  ∃ X' : List Nat, e = .returned (.int .u32 ((val X / val D : Nat) : Int)) ∧ Own w' B g N (pre ++ X' ++ post) ∧ X'.length = X.length ∧ Lo X' ∧ val X' = val X % val D ∧ nth X' D.length = 0 ∧ w.grownBy w' (some g)

set_option maxRecDepth 100000 in
set_option maxHeartbeats 4000000 in
theorem takeMultiple_any (B g N o m c cap : Nat) (pre X post D : List Nat) (a : Option Addr) (w : World) (ho : pre.length = o) (hown : Own w B g N (pre ++ X ++ post)) (hd : Lim w (.slice a (m + 2) cap) D) (hap : Apart g (.slice a (m + 2) cap)) (xlo : Lo X) (dlo : Lo D)
    (hm : X.length = m + 3) (hlen : D.length = m + 2) (hf : 1 ≤ nth D (m + 1)) (hq : val X < val D * 1000000000) (hsm : m ≤ 1000000) : Calls Try.prog 125 #[.slice (some ⟨g, o, none⟩) (m + 3) c, .slice a (m + 2) cap] w (TakeP B g N pre X post D w) := by
  have hbd := hown.len
  simp only [List.length_append] at hbd
  have hod : o + (m + 2) < N := by omega
  obtain ⟨bd, od, rfl⟩ : ∃ bd od, a = some ⟨bd, od, none⟩ := by
    obtain ⟨a', cap', e, h1, h2, h3, h4⟩ := hd
    obtain ⟨b, o, h, _⟩ := h4 0 (by omega)
    simp only [Value.slice.injEq] at e
    exact ⟨b, o, e.1.trans h⟩
  have dcell : ∀ i, i < m + 2 → w.cell? ⟨bd, od + i, none⟩ = some (.int .u32 (nth D i)) := by
    obtain ⟨a', cap', e, h1, h2, h3, h4⟩ := hd
    intro i hi
    obtain ⟨b, o, h, hc⟩ := h4 i (by omega)
    simp only [Value.slice.injEq] at e
    rw [← e.1] at h
    cases h
    exact hc
  have xcell : ∀ i, i < m + 3 → w.cell? ⟨g, o + i, none⟩ = some (.int .u32 (nth X i)) := fun i hi => by
    rw [hown.cell (o + i) (by omega), ← ho, nth_mid _ _ _ _ (by omega)]
  have c1 := dcell (m + 1) (by omega)
  have c2 := dcell m (by omega)
  have c3 := xcell (m + 2) (by omega)
  have c4 := xcell (m + 1) (by omega)
  have c5 := xcell m (by omega)
  have b1 := dlo (m + 1)
  have b2 := dlo m
  have b3 := xlo (m + 2)
  have b4 := xlo (m + 1)
  have b5 := xlo m
  have hT0 : (0 : Int) ≤ ((nth X (m + 2) : Nat) : Int) * 1000000000 + ((nth X (m + 1) : Nat) : Int) := by omega
  have hp1 : (0 : Int) ≤ (((nth X (m + 2) : Nat) : Int) * 1000000000 + ((nth X (m + 1) : Nat) : Int)) / ((nth D (m + 1) : Nat) : Int) := Int.ediv_nonneg hT0 (by omega)
  have hp2 : (0 : Int) ≤ (((nth X (m + 2) : Nat) : Int) * 1000000000 + ((nth X (m + 1) : Nat) : Int)) / ((nth D (m + 1) : Nat) : Int) * ((nth D (m + 1) : Nat) : Int) := Int.mul_nonneg hp1 (by omega)
  have hp3 : (((nth X (m + 2) : Nat) : Int) * 1000000000 + ((nth X (m + 1) : Nat) : Int)) / ((nth D (m + 1) : Nat) : Int) * ((nth D (m + 1) : Nat) : Int) ≤ ((nth X (m + 2) : Nat) : Int) * 1000000000 + ((nth X (m + 1) : Nat) : Int) := Int.ediv_mul_le _ (by omega)
  have HQ := Lib.hid (And.intro hq (And.intro hd (And.intro hap (And.intro dcell (And.intro xcell (And.intro hbd (And.intro ho (And.intro hm (And.intro hlen (And.intro xlo (And.intro dlo hown)))))))))))
  clear hq hd hap dcell xcell hbd ho hm hlen xlo dlo hown
  have HM : Hid (∀ n : Nat, ((((nth X (m + 2) : Nat) : Int) * 1000000000 + ((nth X (m + 1) : Nat) : Int)) / ((nth D (m + 1) : Nat) : Int) ≤ 999999999 → GuessR0 X D m w (.int .u64 ((((nth X (m + 2) : Nat) : Int) * 1000000000 + ((nth X (m + 1) : Nat) : Int)) / ((nth D (m + 1) : Nat) : Int))) (w.drewN n)) ∧ (¬ (((nth X (m + 2) : Nat) : Int) * 1000000000 + ((nth X (m + 1) : Nat) : Int)) / ((nth D (m + 1) : Nat) : Int) ≤ 999999999 → GuessR0 X D m w (.int .u64 999999999) (w.drewN n))) := by
    obtain ⟨hq, hd, hap, dcell, xcell, hbd, ho, hm, hlen, xlo, dlo, hown⟩ := HQ.out
    have g1 := knuth_init (top_two D m hlen) (top_three X m hm) (val_take_lt xlo m (by omega)) (xlo m) hf
    have g2 := quo_small hq
    have e1 : (((nth X (m + 2) : Nat) : Int) * 1000000000 + ((nth X (m + 1) : Nat) : Int)) / ((nth D (m + 1) : Nat) : Int) = (((nth X (m + 2) * 1000000000 + nth X (m + 1)) / nth D (m + 1) : Nat) : Int) := by simp
    have e2 := Nat.div_mul_le_self (nth X (m + 2) * 1000000000 + nth X (m + 1)) (nth D (m + 1))
    refine fun n => ⟨fun h => ⟨_, n, by rw [e1], g1, by rw [e1] at h; omega, e2, rfl⟩, fun h => ?_⟩
    have h3 : (999999999 : Int) * ((nth D (m + 1) : Nat) : Int) ≤ (((nth X (m + 2) : Nat) : Int) * 1000000000 + ((nth X (m + 1) : Nat) : Int)) / ((nth D (m + 1) : Nat) : Int) * ((nth D (m + 1) : Nat) : Int) := Int.mul_le_mul_of_nonneg_right (by omega) (by omega)
    exact ⟨999999999, n, rfl, g2, by omega, by omega, rfl⟩
  go_enter Try.func125, Try.ntmps125
  go_wp2
  go_quiet (fail)
  go_wp2
  go_quiet (fail)
  go_upto_region 4 with (fail)
  go_cut [9] (fun s9 wx => GuessR0 X D m w s9 wx)
  case first =>
    by_cases hmin : (((nth X (m + 2) : Nat) : Int) * 1000000000 + ((nth X (m + 1) : Nat) : Int)) / ((nth D (m + 1) : Nat) : Int) ≤ 999999999
    all_goals
      go_wp2_with fail
      go_meet
    case rel => exact (HM.out _).1 hmin
    case rel => exact (HM.out _).2 hmin
  case rest =>
    obtain ⟨G0, n0, rfl, hqG0, hG0, hGf, rfl⟩ := hcut
    have hGf2 : (G0 : Int) * ((nth D (m + 1) : Nat) : Int) ≤ ((nth X (m + 2) : Nat) : Int) * 1000000000 + ((nth X (m + 1) : Nat) : Int) := by
      have : ((G0 * nth D (m + 1) : Nat) : Int) ≤ ((nth X (m + 2) * 1000000000 + nth X (m + 1) : Nat) : Int) := by omega
      simpa using this
    have hGf3 : (0 : Int) ≤ (G0 : Int) * ((nth D (m + 1) : Nat) : Int) := Int.mul_nonneg (by omega) (by omega)
    have HG0 := Lib.hid (And.intro hqG0 hGf)
    clear hqG0 hGf hp1 hp2 hp3 HM
    go_upto_block 0 with (fail)
    go_cut [9, 10] (fun s9 s10 wx => GuessR1 X D w s9 wx)
    case first =>
      go_wp2
      go_loop [9, 10] (fun s9 s10 => GuessR X D m s9 s10) (fun s _ => (intOf s).toNat)
      case atStart =>
        obtain ⟨g1, g2⟩ := HG0.out
        exact ⟨G0, (nth X (m + 2) * 1000000000 + nth X (m + 1)) - G0 * nth D (m + 1), rfl, by rw [Int.ofNat_sub g2]; simp, g1, hG0, by omega⟩
      case round =>
        obtain ⟨G, r, rfl, rfl, hqG, hG, hT⟩ := hrel
        clear hGf2 hGf3
        have hgs0 : (0 : Int) ≤ (G : Int) * ((nth D m : Nat) : Int) := Int.mul_nonneg (by omega) (by omega)
        have hgs1 : (G : Int) * ((nth D m : Nat) : Int) ≤ 999999998000000001 := by
          have : (G : Int) * ((nth D m : Nat) : Int) ≤ 999999999 * 999999999 := Int.mul_le_mul (by omega) (by omega) (by omega) (by omega)
          omega
        have HT := Lib.hid (And.intro hqG hT)
        clear hqG hT
        by_cases hgo : r < 1000000000 ∧ r * 1000000000 + nth X m < G * nth D m
        · obtain ⟨hr, hgt⟩ := hgo
          have HG := Lib.hid hgt
          have hgt2 : (r : Int) * 1000000000 + ((nth X m : Nat) : Int) < (G : Int) * ((nth D m : Nat) : Int) := by
            have : ((r * 1000000000 + nth X m : Nat) : Int) < ((G * nth D m : Nat) : Int) := by omega
            simpa using this
          have hpos : 1 ≤ G := by
            rcases Nat.eq_zero_or_pos G with h | h
            · rw [h, Nat.zero_mul] at hgt; omega
            · exact h
          clear hgt
          have hd1 : decide ((r : Int) < 1000000000) = true := by simp; omega
          have hd2 : decide ((r : Int) * 1000000000 + ((nth X m : Nat) : Int) < (G : Int) * ((nth D m : Nat) : Int)) = true := by simp; omega
          go_wp2
          go_round
          case rel =>
            obtain ⟨hq, hd, hap, dcell, xcell, hbd, ho, hm, hlen, xlo, dlo, hown⟩ := HQ.out
            obtain ⟨hqG, hT⟩ := HT.out
            have hu := knuth_up (top_two D m hlen) (top_three X m hm) (val_take_lt xlo m (by omega)) hT (Nat.div_mul_le_self _ _) HG.out
            refine ⟨G - 1, r + nth D (m + 1), by go_num, by go_num, by omega, by omega, ?_⟩
            obtain ⟨H, rfl⟩ : ∃ H, G = H + 1 := ⟨G - 1, by omega⟩
            rw [hT, Nat.add_mul, show H + 1 - 1 = H by omega]; omega
          case measure => simp [intOf]; omega
        · have hle : r < 1000000000 → G * nth D m ≤ r * 1000000000 + nth X m := fun h => by
            rcases Nat.lt_or_ge (r * 1000000000 + nth X m) (G * nth D m) with h1 | h1
            · exact absurd ⟨h, h1⟩ hgo
            · exact h1
          have hle2 : r < 1000000000 → (G : Int) * ((nth D m : Nat) : Int) ≤ (r : Int) * 1000000000 + ((nth X m : Nat) : Int) := fun h => by
            have : ((G * nth D m : Nat) : Int) ≤ ((r * 1000000000 + nth X m : Nat) : Int) := by have := hle h; omega
            simpa using this
          have HD : Hid (val X / val D ≤ G ∧ G ≤ val X / val D + 1) := by
            obtain ⟨hq, hd, hap, dcell, xcell, hbd, ho, hm, hlen, xlo, dlo, hown⟩ := HQ.out
            obtain ⟨hqG, hT⟩ := HT.out
            refine ⟨hqG, knuth_down (top_two D m hlen) (top_three X m hm) (val_take_lt dlo m (by omega)) hf hT (by omega) ?_⟩
            by_cases h : r < 1000000000
            · exact hle h
            · exact knuth_rest (by omega) (dlo m) (by omega)
          have hcase : (decide ((r : Int) < 1000000000) = true ∧ r < 1000000000 ∧ decide ((r : Int) * 1000000000 + ((nth X m : Nat) : Int) < (G : Int) * ((nth D m : Nat) : Int)) = false) ∨ (decide ((r : Int) < 1000000000) = false ∧ 1000000000 ≤ r ∧ True) := by
            by_cases h : r < 1000000000
            · refine .inl ⟨by simp; omega, h, ?_⟩
              have := hle2 h
              simp; omega
            · exact .inr ⟨by simp; omega, by omega, trivial⟩
          clear hgo hle hle2
          rcases hcase with ⟨hd1, hr, hd2⟩ | ⟨hd1, hr, hd2⟩
          all_goals
            go_wp2
            go_meet
            case rel =>
              obtain ⟨h1, h2⟩ := HD.out
              exact ⟨G, n0, rfl, hG, h1, h2, rfl⟩
    case rest =>
      obtain ⟨G, n1, rfl, hG, hqG, hqG1, rfl⟩ := hcut
      have HD := Lib.hid (And.intro hqG hqG1)
      clear hqG hqG1 hGf2 hGf3 hT0 HG0
      go_wp2
      go_loopw [11, 12, 13, 74] (fun s11 s12 s13 i wr => ∃ (k u : Nat) (Y : List Nat), k ≤ m + 2 ∧ i = .int .i64 k ∧ s11 = .int .u64 u ∧ u ≤ 1000000000 ∧ Own wr B g N (pre ++ Y ++ post) ∧ Y.length = m + 3 ∧ Lo Y ∧ (∀ i, k ≤ i → nth Y i = nth X i) ∧
          val (Y.take k) + G * val (D.take k) = val (X.take k) + pw k * u ∧ w.grownBy wr (some g)) (fun _ _ _ i _ => m + 2 - (intOf i).toNat)
      case atStart =>
        obtain ⟨hq, hd, hap, dcell, xcell, hbd, ho, hm, hlen, xlo, dlo, hown⟩ := HQ.out
        exact ⟨0, 0, X, Nat.zero_le _, rfl, rfl, by omega, hown.drewN _, hm, xlo, fun _ _ => rfl, by simp [val], grown_drewN (World.grownBy.refl _ _) _⟩
      case round => as_aux_lemma =>
        obtain ⟨k, u, Y, hk, rfl, rfl, hu, hownY, hly, ylo, hz, hval, hgr⟩ := hrel
        skip
        obtain ⟨hq, hd, hap, dcell, xcell, hbd, ho, hm, hlen, xlo, dlo, hown⟩ := HQ.out
        by_cases hlt : k < m + 2
        · have hne : bd ≠ g := hap _ _ _ rfl
          have hcell := hgr.cell (dcell k hlt) (by simpa using hne)
          have hold := hownY.cell (o + k) (by omega)
          have hfr := hownY.frozen (o + k)
          rw [← ho, nth_mid _ _ _ _ (by omega), ho] at hold
          have hyk := ylo k
          have hdk := dlo k
          have hg0 : (0 : Int) ≤ (G : Int) * ((nth D k : Nat) : Int) := Int.mul_nonneg (by omega) (by omega)
          have hg1 : (G : Int) * ((nth D k : Nat) : Int) ≤ 999999998000000001 := by
            have : (G : Int) * ((nth D k : Nat) : Int) ≤ 999999999 * 999999999 := Int.mul_le_mul (by omega) (by have := dlo k; omega) (by omega) (by omega)
            omega
          have hgN : G * nth D k ≤ 999999998000000001 := by
            have : G * nth D k ≤ 999999999 * 999999999 := Nat.mul_le_mul (by omega) (by have := dlo k; omega)
            omega
          have hcast : (((u + G * nth D k) % 1000000000 : Nat) : Int) = ((u : Int) + (G : Int) * ((nth D k : Nat) : Int)) % 1000000000 := by simp
          by_cases hb : nth Y k < (u + G * nth D k) % 1000000000
          · as_aux_lemma =>
            have hb2 : ((nth Y k : Nat) : Int) < ((u : Int) + (G : Int) * ((nth D k : Nat) : Int)) % 1000000000 := by omega
            have hlt0 := hb2
            have HS := Lib.hid (mulsub_step Y X D k G u (nth Y k + 1000000000 - (u + G * nth D k) % 1000000000) 1 (by omega) hval (hz k (Nat.le_refl _)) (by omega))
            have H := Lib.hid (And.intro hval (And.intro hownY (And.intro hly (And.intro ylo (And.intro hz (And.intro hgr (And.intro hcast (And.intro hgN hb))))))))
            clear hval hownY hly ylo hz hgr hcast hgN hb hq hd hap dcell xcell hbd ho hm hlen xlo dlo hown
            go_wp2
            go_roundw
            case rel =>
              obtain ⟨hval, hownY, hly, ylo, hz, hgr, hcast, hgN, hb⟩ := H.out
              obtain ⟨hq, hd, hap, dcell, xcell, hbd, ho, hm, hlen, xlo, dlo, hown⟩ := HQ.out
              have hml := Nat.mod_lt (u + G * nth D k) (show 0 < 1000000000 by omega)
              refine ⟨k + 1, (u + G * nth D k) / 1000000000 + 1, Y.set k (nth Y k + 1000000000 - (u + G * nth D k) % 1000000000), by omega, by go_num, by go_num, by omega, ?_, by simpa using hly, lo_set_drop (by omega) ylo (by omega), ?_, HS.out, ?_⟩
              · rw [← set_mid _ _ _ _ _ (by omega), ho]
                have hs1 := (hownY.store' (o + k) (nth Y k + 1000000000) (((nth Y k : Nat) : Int) + 1000000000) (by simp) (by omega)).store' (o + k) (nth Y k + 1000000000 - (u + G * nth D k) % 1000000000) (((nth Y k : Nat) : Int) + 1000000000 - ((u : Int) + (G : Int) * ((nth D k : Nat) : Int)) % 1000000000) (by omega) (by omega)
                rw [List.set_set] at hs1
                simpa using hs1
              · intro i hi
                rw [nth_set _ _ _ _ (by omega), if_neg (by omega)]
                exact hz i (by omega)
              · first | exact grown_setCell (grown_setCell hgr _) _ | (refine grown_trans hgr ?_; simpa using grown_setCell (World.grownBy.refl wr (some g)) (o := o + k) _)
            case measure => simp [intOf]; omega
          · as_aux_lemma =>
            have hb2 : ¬ ((nth Y k : Nat) : Int) < ((u : Int) + (G : Int) * ((nth D k : Nat) : Int)) % 1000000000 := by omega
            have HS := Lib.hid (mulsub_step Y X D k G u (nth Y k - (u + G * nth D k) % 1000000000) 0 (by omega) hval (hz k (Nat.le_refl _)) (by omega))
            have H := Lib.hid (And.intro hval (And.intro hownY (And.intro hly (And.intro ylo (And.intro hz (And.intro hgr (And.intro hcast (And.intro hgN hb))))))))
            clear hval hownY hly ylo hz hgr hcast hgN hb hq hd hap dcell xcell hbd ho hm hlen xlo dlo hown
            go_wp2
            go_roundw
            case rel =>
              obtain ⟨hval, hownY, hly, ylo, hz, hgr, hcast, hgN, hb⟩ := H.out
              obtain ⟨hq, hd, hap, dcell, xcell, hbd, ho, hm, hlen, xlo, dlo, hown⟩ := HQ.out
              have hml := Nat.mod_lt (u + G * nth D k) (show 0 < 1000000000 by omega)
              refine ⟨k + 1, (u + G * nth D k) / 1000000000 + 0, Y.set k (nth Y k - (u + G * nth D k) % 1000000000), by omega, by go_num, by go_num, by omega, ?_, by simpa using hly, lo_set_drop (by omega) ylo (by omega), ?_, HS.out, ?_⟩
              · rw [← set_mid _ _ _ _ _ (by omega), ho]
                exact hownY.store' (o + k) _ _ (by omega) (by omega)
              · intro i hi
                rw [nth_set _ _ _ _ (by omega), if_neg (by omega)]
                exact hz i (by omega)
              · first | exact grown_setCell hgr _ | (refine grown_trans hgr ?_; simpa using grown_setCell (World.grownBy.refl wr (some g)) (o := o + k) _)
            case measure => simp [intOf]; omega
        · obtain rfl : m + 2 = k := by omega
          have hold := hownY.cell (o + (m + 2)) (by omega)
          have hfr := hownY.frozen (o + (m + 2))
          rw [← ho, nth_mid _ _ _ _ (by omega), ho, hz (m + 2) (Nat.le_refl _)] at hold
          have hdlt := val_lt dlo
          rw [hlen] at hdlt
          have hdpos : 0 < val D := by
            rcases Nat.eq_zero_or_pos (val D) with h | h
            · have := val_eq_zero h (m + 1); omega
            · exact h
          have hA := val_take_lt ylo (m + 2) (by omega)
          have hX : val X = val (X.take (m + 2)) + pw (m + 2) * nth X (m + 2) := by
            rw [← val_take_succ' X (m + 2), List.take_of_length_le (by omega)]
          have hval2 := hval
          rw [show D.take (m + 2) = D from List.take_of_length_le (by omega)] at hval2
          obtain ⟨hg1, hg2⟩ := HD.out
          have hY0 : val (Y.set (m + 2) 0) = val (Y.take (m + 2)) := by
            have := val_set_take Y (m + 2) 0 (by omega)
            rw [List.take_of_length_le (by simp; omega), Nat.mul_zero, Nat.add_zero] at this
            exact this
          by_cases hG2 : G = val X / val D
          · as_aux_lemma =>
            obtain ⟨e1, e2⟩ := tm_right hA (Nat.le_of_lt hdlt) hdpos hX hval2 hG2
            have HE := Lib.hid (And.intro e1 (And.intro e2 (And.intro hY0 (And.intro hG2 (And.intro hownY (And.intro hly (And.intro ylo (And.intro hgr (And.intro ho hlen)))))))))
            have hcmp : decide (((nth X (m + 2) : Nat) : Int) < (u : Int)) = false := by simp; omega
            have hcmp2 : u ≤ nth X (m + 2) := by omega
            clear e1 e2 hY0 hG2 hownY hly ylo hgr hval hval2 hz hX hA hdlt hq hd hap dcell xcell hbd ho hm hlen xlo dlo hown hg1 hg2
            go_wp2
            go_ret
            obtain ⟨e1, e2, hY0, hG2, hownY, hly, ylo, hgr, ho, hlen⟩ := HE.out
            obtain ⟨hq, hd, hap, dcell, xcell, hbd, ho, hm, hlen, xlo, dlo, hown⟩ := HQ.out
            refine ⟨Y.set (m + 2) 0, ret_int (by rw [hG2]), ?_, by rw [List.length_set, hly, hm], lo_set_drop (by omega) ylo (by omega), by rw [hY0, e2], ?_, grown_setCell hgr _⟩
            · rw [← set_mid _ _ _ _ _ (by omega), ho]
              exact hownY.store' _ _ _ rfl (by omega)
            · rw [hlen, nth_set _ _ _ _ (by omega), if_pos rfl]
          · as_aux_lemma =>
            have hG3 : G = val X / val D + 1 := by omega
            obtain ⟨e1, e2⟩ := tm_over hA (Nat.le_of_lt hdlt) hdpos hX hval2 hG3
            have hown2 : Own (wr.setCell ⟨g, o + (m + 2), none⟩ (.int .u32 0)) B g N (pre ++ Y.set (m + 2) 0 ++ post) := by
              rw [← set_mid _ _ _ _ _ (by omega), ho]
              exact hownY.store' _ _ _ rfl (by omega)
            have hgr2 := grown_setCell hgr (o := o + (m + 2)) (.int .u32 0)
            have hgive := giveBack_any B g N o (m + 3) c pre (Y.set (m + 2) 0) post D _ _ ho hown2 (hd.grown hgr2 hap) hap (lo_set_drop (by omega) ylo (by omega)) dlo (by rw [List.length_set, hly]) (by omega)
            have HE := Lib.hid (And.intro e1 (And.intro e2 (And.intro hY0 (And.intro hG3 (And.intro hgive (And.intro hly (And.intro hdlt (And.intro hgr2 (And.intro ho hlen)))))))))
            have hcmp : decide (((nth X (m + 2) : Nat) : Int) < (u : Int)) = true := by simp; omega
            have hpos : 1 ≤ G := by rw [hG3]; exact Nat.succ_pos _
            have hcmp2 : nth X (m + 2) < u := e1
            clear e1 e2 hY0 hG2 hG3 hgive hownY hown2 hgr2 hly ylo hgr hval hval2 hz hX hA hdlt hq hd hap dcell xcell hbd ho hm hlen xlo dlo hown hg1 hg2
            go_wp2_with fail
            obtain ⟨e1, e2, hY0, hG3, hgive, hly, hdlt, hgr2, ho, hlen⟩ := HE.out
            refine hgive.mono ?_
            rintro e w' ⟨rfl, X', c', g1, g2, g3, g4, g5, g6, g7⟩
            have HF := Lib.hid (And.intro g1 (And.intro g2 (And.intro g3 (And.intro g4 (And.intro g5 (And.intro g6 g7))))))
            clear g1 g2 g3 g4 g5 g6 g7 e1 e2 hY0 hG3 hgive hly hdlt hgr2 ho hlen
            go_wp2
            go_ret
            obtain ⟨e1, e2, hY0, hG3, hgive, hly, hdlt, hgr2, ho, hlen⟩ := HE.out
            obtain ⟨g1, g2, g3, g4, g5, g6, g7⟩ := HF.out
            obtain ⟨hq, hd, hap, dcell, xcell, hbd, ho, hm, hlen, xlo, dlo, hown⟩ := HQ.out
            rw [hlen] at g6 g4
            have h0 : nth X' (m + 2) = 0 := by rw [g4 _ (Nat.le_refl _), nth_set _ _ _ _ (by omega), if_pos rfl]
            have hl2 : X'.length = m + 3 := by rw [g2, List.length_set, hly]
            have hv : val X' = val (X'.take (m + 2)) := by
              have := val_take_succ' X' (m + 2)
              rw [h0, List.take_of_length_le (by omega), Nat.mul_zero, Nat.add_zero] at this; exact this
            have h1 : val ((Y.set (m + 2) 0).take (m + 2)) = val (Y.take (m + 2)) := by rw [List.take_set_of_le (by omega)]
            have h2 := val_take_lt g3 (m + 2) (by omega)
            have h3 : val X % val D < val D := Nat.mod_lt _ (by omega)
            rw [h1, e2] at g6
            refine ⟨X', ret_int ?_, g1, by omega, g3, ?_, by rw [hlen]; exact h0, grown_trans hgr2 g7⟩
            · rw [hG3]; simp
            rw [hv]
            rcases Nat.lt_or_ge c' 1 with h | h
            · obtain rfl : c' = 0 := by omega
              rw [Nat.mul_zero, Nat.add_zero] at g6; omega
            · obtain rfl : c' = 1 := by omega
              rw [Nat.mul_one] at g6; omega

end Go.Proofs.Ytdpiclmjdcjajaa
