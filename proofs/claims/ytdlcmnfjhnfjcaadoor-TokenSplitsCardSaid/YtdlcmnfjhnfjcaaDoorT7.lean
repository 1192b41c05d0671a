/-
  The walk of the program's Split. Condition: the table of signs lies in memory as the program's text lays it.
-/
import Derived.Test.YtdlcmnfjhnfjcaaDoorT6
import Derived.Lib.LaidTab
import Derived.Deep.LoopGhost
namespace Go.Proofs.YtdlcmnfjhnfjcaaDoor
open Go.RowKit Tok

def SC : Array Value := #[.string ⟨#[45, 62]⟩, .string ⟨#[60, 61]⟩, .string ⟨#[61, 61]⟩, .string ⟨#[40]⟩, .string ⟨#[41]⟩, .string ⟨#[44]⟩, .string ⟨#[61]⟩, .string ⟨#[124]⟩, .string ⟨#[43]⟩, .string ⟨#[45]⟩, .string ⟨#[42]⟩, .string ⟨#[47]⟩, .string ⟨#[37]⟩, .string ⟨#[60]⟩, .string ⟨#[59]⟩, .string ⟨#[95]⟩]
def signAt (k : Nat) : ByteArray := ⟨(signs.getD k []).toArray⟩
theorem sc_0 (w : World) : (Instr.index 42 (.agg SC) (.int .i64 0)).run Tryd.prog w = .ok (.string (signAt 0)) w := by kernel_rfl
theorem sc_1 (w : World) : (Instr.index 42 (.agg SC) (.int .i64 1)).run Tryd.prog w = .ok (.string (signAt 1)) w := by kernel_rfl
theorem sc_2 (w : World) : (Instr.index 42 (.agg SC) (.int .i64 2)).run Tryd.prog w = .ok (.string (signAt 2)) w := by kernel_rfl
theorem sc_3 (w : World) : (Instr.index 42 (.agg SC) (.int .i64 3)).run Tryd.prog w = .ok (.string (signAt 3)) w := by kernel_rfl
theorem sc_4 (w : World) : (Instr.index 42 (.agg SC) (.int .i64 4)).run Tryd.prog w = .ok (.string (signAt 4)) w := by kernel_rfl
theorem sc_5 (w : World) : (Instr.index 42 (.agg SC) (.int .i64 5)).run Tryd.prog w = .ok (.string (signAt 5)) w := by kernel_rfl
theorem sc_6 (w : World) : (Instr.index 42 (.agg SC) (.int .i64 6)).run Tryd.prog w = .ok (.string (signAt 6)) w := by kernel_rfl
theorem sc_7 (w : World) : (Instr.index 42 (.agg SC) (.int .i64 7)).run Tryd.prog w = .ok (.string (signAt 7)) w := by kernel_rfl
theorem sc_8 (w : World) : (Instr.index 42 (.agg SC) (.int .i64 8)).run Tryd.prog w = .ok (.string (signAt 8)) w := by kernel_rfl
theorem sc_9 (w : World) : (Instr.index 42 (.agg SC) (.int .i64 9)).run Tryd.prog w = .ok (.string (signAt 9)) w := by kernel_rfl
theorem sc_10 (w : World) : (Instr.index 42 (.agg SC) (.int .i64 10)).run Tryd.prog w = .ok (.string (signAt 10)) w := by kernel_rfl
theorem sc_11 (w : World) : (Instr.index 42 (.agg SC) (.int .i64 11)).run Tryd.prog w = .ok (.string (signAt 11)) w := by kernel_rfl
theorem sc_12 (w : World) : (Instr.index 42 (.agg SC) (.int .i64 12)).run Tryd.prog w = .ok (.string (signAt 12)) w := by kernel_rfl
theorem sc_13 (w : World) : (Instr.index 42 (.agg SC) (.int .i64 13)).run Tryd.prog w = .ok (.string (signAt 13)) w := by kernel_rfl
theorem sc_14 (w : World) : (Instr.index 42 (.agg SC) (.int .i64 14)).run Tryd.prog w = .ok (.string (signAt 14)) w := by kernel_rfl
theorem sc_15 (w : World) : (Instr.index 42 (.agg SC) (.int .i64 15)).run Tryd.prog w = .ok (.string (signAt 15)) w := by kernel_rfl
theorem sc_index (k : Nat) (h : k < 16) (w : World) : (Instr.index 42 (.agg SC) (.int .i64 (k : Int))).run Tryd.prog w = .ok (.string (signAt k)) w := by
  match k, h with
  | 0, _ => exact sc_0 w
  | 1, _ => exact sc_1 w
  | 2, _ => exact sc_2 w
  | 3, _ => exact sc_3 w
  | 4, _ => exact sc_4 w
  | 5, _ => exact sc_5 w
  | 6, _ => exact sc_6 w
  | 7, _ => exact sc_7 w
  | 8, _ => exact sc_8 w
  | 9, _ => exact sc_9 w
  | 10, _ => exact sc_10 w
  | 11, _ => exact sc_11 w
  | 12, _ => exact sc_12 w
  | 13, _ => exact sc_13 w
  | 14, _ => exact sc_14 w
  | 15, _ => exact sc_15 w
  | n + 16, h => omega

theorem info30 : (Tryd.prog.info? 30).map (fun i => (i.zero, i.size, i.bytes)) = some (some (.agg #[.int .i64 0, .string ⟨#[]⟩, .int .i64 0]), 3, 32) := by kernel_rfl
theorem sc_size : (Tryd.prog.info? 42).map (·.size) = some SC.size := by kernel_rfl

/-- The table of signs, in memory. -/
def SignsAt (w : World) : Prop := ∃ t fr, w.heap[0]? = some (.cells SC t fr)
theorem SignsAt.lt {w : World} (h : SignsAt w) : 0 < w.heap.size := by
  obtain ⟨t, fr, h⟩ := h
  rcases Nat.eq_zero_or_pos w.heap.size with h0 | h0
  · rw [Array.getElem?_eq_none (by omega)] at h; cases h
  · exact h0
theorem SignsAt.below {w w' : World} (h : SignsAt w) (hb : Below w.heap.size w w') : SignsAt w' := by
  have h0 := h.lt
  obtain ⟨t, fr, h⟩ := h
  exact ⟨t, fr, (hb.block 0 h0).trans h⟩


theorem below_step {w wr w2 w3 : World} {e : TypeId} {v : Value} {n : Nat} {xs : List Value} {o : Obj} (h1 : Below w.heap.size w wr) (h2 : Below wr.heap.size wr w2) (h3 : w2.ownsRow w.heap.size e 3 v n xs) (h4 : (w2.alloc o).grownBy w3 v.ownBlock) : Below w.heap.size w w3 :=
  have h := h1.trans (h2.mono h1.size)
  (h.alloc h.size o).grown h4 (h.alloc h.size o).size (fun k hk => (h3.lt k hk).1)

theorem signAt_data (j : Nat) : (signAt j).data.toList = signs.getD j [] := rfl
theorem signAt_le (j : Nat) : (signAt j).size ≤ 2 := by
  rw [← size_data, signAt_data]
  rcases Nat.lt_or_ge j 16 with h | h
  · have : ∀ j, j < 16 → (signs.getD j []).length ≤ 2 := by decide
    exact this j h
  · rw [List.getD_eq_getElem?_getD, List.getElem?_eq_none (by simpa [signs] using h)]; simp

set_option maxHeartbeats 4000000 in
set_option maxRecDepth 100000 in
theorem split_any (s : ByteArray) (w : World) (hsz : s.size ≤ maxLen) (hS : SignsAt w) : Calls Tryd.prog 7 #[.string s] w (SplitP s.data.toList w) := by
  unfold maxLen at hsz
  obtain ⟨SCv, hSCv⟩ : ∃ x, x = SC := ⟨_, rfl⟩
  have hscs := sc_size
  have hsci := sc_index
  rw [← hSCv] at hscs hsci
  obtain ⟨i30, hi, hz0, hz1, hz2⟩ := info_parts info30
  by_cases hs : s.size ≤ 16384
  · have hgt : ¬ 16384 < s.size := by omega
    have hg0 := gapEnd_bd s.data.toList 0 (by omega)
    rw [size_data] at hg0
    have HS := Lib.hid (And.intro hS (And.intro hSCv (And.intro hscs hsci)))
    clear hS hSCv hscs hsci
    go_enter Tryd.func7, Tryd.ntmps7
    go_wp2
    go_step3
    go_wp2
    go_step3
    go_wp2_with (go_at_call 11; refine (skipGap_any s 0 _ hs (by omega)).mono ?_; rintro e w' ⟨rfl, rfl⟩)
    go_loopg [5, 6] (s.size - gapEnd s.data.toList 0) (fun g v i wr => ∃ (k : Nat) (acc : List T), k + g = s.size ∧ i = .int .i64 k ∧ acc.length ≤ k ∧ wr.ownsRow w.heap.size 30 3 v acc.length (cells3 acc) ∧ Below w.heap.size w wr ∧
        Hid (skip false (s.data.toList.drop k) = s.data.toList.drop k ∧ Tok.split s.data.toList = run s.data.toList.length (s.data.toList.drop k) acc))
    case atStart => exact ⟨_, [], by omega, rfl, by simp, World.ownsRow_nil _ _ _ _, Below.refl _ _, Lib.hid ⟨by rw [gapEnd_drop _ 0 (by omega), skip_idem], run_first (by rw [size_data]; exact hs)⟩⟩
    case round =>
      obtain ⟨k, acc, hkg, rfl, hal, hown, hbel, HR⟩ := hrel
      cases gk with
      | zero =>
        obtain rfl : k = s.size := by omega
        have hbs := hbel.size
        go_wp2_with (at_builtin; refine wpList_append_own _ rfl _ _ 22 rfl w.heap.size 30 i30 (.agg #[.int .i64 0, .string ⟨#[]⟩, .int .i64 0]) 3 32 Tryd.underlying22 hi hz0 hz1 hz2 rfl (by decide) _ _ _ rfl (hown.alloc _) ⟨wr.heap.size, 0, none⟩ 1 1 [.int .i64 6, .string ⟨#[]⟩, .int .i64 s.size] rfl rfl (cells_new3 _ _ _ _ _) (fun x hx => by simp at hx; rcases hx with rfl | rfl | rfl <;> rfl) (by unfold maxLen; omega) (by omega) (by simp; omega) ?_; intro v' w3 hown3 hgrow3 hnil3)
        try rw [Exit.noGoto_ret]
        go_ret3
        refine ⟨_, rfl, ?_, below_step hbel (Below.refl _ _) hown hgrow3⟩
        rw [run_done (k := s.size) (acc := acc) (by rw [size_data]; exact Nat.le_refl _) HR.out.2]
        refine ⟨_, rfl, TokS.of_own (base := w.heap.size) (e := 30) (n := acc.length + 1) ?_ (by simp)⟩
        rw [cells3_append, size_data]
        exact hown3
      | succ g =>
        have hlt : k < s.size := by omega
        have HB := byte_drop s k hlt
        obtain ⟨b, hb⟩ : ∃ b, b = s[k] := ⟨_, rfl⟩
        rw [← hb] at HB
        clear hb
        obtain ⟨rest, hrest⟩ : ∃ rest, s.extract k s.size = rest := ⟨_, rfl⟩
        have hrl : rest.data.toList = b :: s.data.toList.drop (k + 1) := by rw [← hrest, Lib.extract_data, HB, List.take_of_length_le]; rw [← HB, List.length_drop, size_data]; exact Nat.le_refl _
        have hbl : (b :: s.data.toList.drop (k + 1)).length ≤ 16384 := by rw [← HB, List.length_drop, size_data]; omega
        have hrs : rest.size ≤ 16384 := by
          rw [← size_data, hrl]; exact hbl
        have cl := fun w => leadingWord_any rest b _ w hrs hrl
        rcases head_word b (s.data.toList.drop (k + 1)) hbl with ⟨hl, hx⟩ | ⟨kd, t, er, hl, hkd, her, ht0, htl, hck, hx⟩
        · rw [hrl, hl] at cl
          unfold leadV at cl
          obtain ⟨hS, hSCv, hscs, hsci⟩ := HS.out
          obtain ⟨ty0, fr0, hglob⟩ := hS.below hbel
          rw [← hSCv] at hglob
          have HX := Lib.hid (And.intro HB (And.intro hrl (And.intro hl hx)))
          clear HB hrl hl hx hSCv hS
          have hbs := hbel.size
          go_wp2_with (first
            | (go_at_call 12; refine (cl _).mono ?_; rintro e w' ⟨rfl, rfl⟩)
            | (refine wpList_load_row rfl 42 (.global 0) rfl 0 rfl ty0 SCv fr0 _ hglob Tryd.underlying42 rfl hscs ?_))
          go_loopg [5, 6, 55] 16 (fun g2 s5 s6 s55 wy => ∃ j : Nat, j + g2 = 16 ∧ s55 = .int .i64 j ∧ s5 = u5 ∧ s6 = .int .i64 k ∧ Hid (∀ i, i < j → preB (signs.getD i []) (s.data.toList.drop k) = false) ∧ wr = wy)
          case atStart => exact ⟨0, by omega, rfl, rfl, rfl, Lib.hid (fun i hi => by omega), rfl⟩
          case round =>
            obtain ⟨j, hjg, rfl, rfl, rfl, HJ, rfl⟩ := hrel
            cases gk with
            | zero =>
              obtain rfl : j = 16 := by omega
              go_wp2
              try rw [Exit.noGoto_ret]
              go_ret3
              refine ⟨_, rfl, ?_, hbel⟩
              have hno : signOf (s.data.toList.drop k) = none := by
                unfold signOf
                exact find_no (d := []) signs (fun i hi => HJ.out i hi)
              have hx2 : lex (s.data.toList.drop k) = .err 2 := by
                rw [HX.out.1, HX.out.2.2.2, ← HX.out.1, hno]; rfl
              rw [run_fail (k := k) (acc := acc) (e := 2) (by rw [size_data]; exact hlt) HR.out.1 hx2 HR.out.2]
              rfl
            | succ g2 =>
              have hj16 : j < 16 := by omega
              have hix := hsci j hj16
              have hsl := signAt_le j
              obtain ⟨sj, hsj⟩ : ∃ x, signAt j = x := ⟨_, rfl⟩
              have hsd : sj.data.toList = signs.getD j [] := by rw [← hsj]; rfl
              rw [hsj] at hix hsl
              have chp := fun w => hasPrefix_any rest sj w
              obtain ⟨q, hq⟩ : ∃ q, preB (signs.getD j []) (s.data.toList.drop k) = q := ⟨_, rfl⟩
              rw [hsd, HX.out.2.1, ← HX.out.1, hq] at chp
              have HQ := Lib.hid hq
              have HSD := Lib.hid hsd
              clear hq hsj hsd hsci
              cases q
              · go_wp2_with (go_at_call 15; refine (chp _).mono ?_; rintro e w' ⟨rfl, rfl⟩)
                go_roundg g2
                case measure => omega
                case rel => exact ⟨j + 1, by omega, by go_num, rfl, rfl, Lib.hid (fun i hi => by
                  rcases Nat.lt_or_eq_of_le (Nat.le_of_lt_succ hi) with h | h
                  · exact HJ.out i h
                  · subst h; exact HQ.out), rfl⟩
              · have hso : signOf (s.data.toList.drop k) = some (signs.getD j []) := by
                  unfold signOf
                  exact find_at (d := []) signs j hj16 (fun i hi => HJ.out i hi) HQ.out
                have hx2 : lex (s.data.toList.drop k) = .tok 5 (signs.getD j []) := by
                  rw [HX.out.1, HX.out.2.2.2, ← HX.out.1, hso]; rfl
                have hsz2 : sj.size = (signs.getD j []).length := by rw [← size_data, HSD.out]
                obtain ⟨n1, n2, n3, n4⟩ := run_next (acc := acc) (k := k) (by rw [size_data]; exact hlt) HR.out.1 hx2 HR.out.2
                rw [size_data] at n1 n3
                rw [← hsz2] at n1 n2 n3 n4
                have cg := fun w => skipGap_any s (k + sj.size) w hs n1
                have h0 : 0 < sj.size := by
                  have := (lex_prefix hx2).2
                  omega
                have htb : sj = ⟨(signs.getD j []).toArray⟩ := mk_eq HSD.out
                have N4 := Lib.hid (And.intro n4 htb)
                clear n4 hso hx2 htb
                have hc0 := Lib.hid hsz2
                clear hsz2
                go_wp2_with (first
                  | (go_at_call 15; refine (chp _).mono ?_; rintro e w' ⟨rfl, rfl⟩)
                  | (go_at_call 11; refine (cg _).mono ?_; rintro e w' ⟨rfl, rfl⟩)
                  | (at_builtin; refine wpList_append_own _ rfl _ _ 22 rfl w.heap.size 30 i30 (.agg #[.int .i64 0, .string ⟨#[]⟩, .int .i64 0]) 3 32 Tryd.underlying22 hi hz0 hz1 hz2 rfl (by decide) _ _ _ rfl (hown.alloc _) ⟨wr.heap.size, 0, none⟩ 1 1 [.int .i64 5, .string sj, .int .i64 k] rfl rfl (cells_new3 _ _ _ _ _) (fun x hx => by simp at hx; rcases hx with rfl | rfl | rfl <;> rfl) (by unfold maxLen; omega) (by omega) (by simp; omega) ?_; intro v' w3 hown3 hgrow3 hnil3))
                go_roundg (s.size - gapEnd s.data.toList (k + sj.size))
                case measure => omega
                case rel =>
                  refine ⟨_, acc ++ [⟨5, signs.getD j [], k⟩], by omega, rfl, by simp; omega, ?_, ?_, Lib.hid N4.out.1⟩
                  · rw [List.length_append, cells3_append, cells3_one, ← N4.out.2]; exact hown3
                  · exact below_step hbel (Below.refl _ _) hown hgrow3
        · rw [hrl, hl] at cl
          obtain ⟨tb, htb⟩ : ∃ tb : ByteArray, (⟨t.toArray⟩ : ByteArray) = tb := ⟨_, rfl⟩
          have htd : tb.data.toList = t := by rw [← htb]
          have htz : tb.size = t.length := by rw [← size_data, htd]
          unfold leadV at cl
          simp only [htb] at cl
          have ck := fun w => hck tb w htd
          have HX := Lib.hid (And.intro HB (And.intro hrl (And.intro hl (And.intro hx (And.intro htb htd)))))
          clear HB hrl hl hx htb htd hck
          by_cases he : er = 0
          · subst he
            have hn := run_next (kd := kd) (t := t) (acc := acc) (k := k) (by rw [size_data]; exact hlt) HR.out.1 (by rw [HX.out.1]; rw [HX.out.2.2.2.1, if_pos rfl]) HR.out.2
            obtain ⟨n1, n2, n3, n4⟩ := hn
            rw [size_data] at n1 n3
            have cg := fun w => skipGap_any s (k + t.length) w hs n1
            have N4 := Lib.hid n4
            clear n4
            have hown := Lib.hid hown
            go_wp2_with (first
              | (go_at_call 12; refine (cl _).mono ?_; rintro e w' ⟨rfl, rfl⟩)
              | (go_at_call 13; refine (ck _).mono ?_; rintro e w' ⟨rfl, rfl⟩)
              | (go_at_call 14; refine (clone_any tb _ (by omega)).mono ?_; rintro e w2 ⟨rfl, hb2⟩; have hown2 := own_below hown.out hb2; have hbs2 := hb2.size; have hbs := hbel.size)
              | (go_at_call 11; refine (cg _).mono ?_; rintro e w' ⟨rfl, rfl⟩)
              | (at_builtin; refine wpList_append_own _ rfl _ _ 22 rfl w.heap.size 30 i30 (.agg #[.int .i64 0, .string ⟨#[]⟩, .int .i64 0]) 3 32 Tryd.underlying22 hi hz0 hz1 hz2 rfl (by decide) _ _ _ rfl (hown2.alloc _) ⟨w2.heap.size, 0, none⟩ 1 1 [.int .i64 kd, .string tb, .int .i64 k] rfl rfl (cells_new3 _ _ _ _ _) (fun x hx => by simp at hx; rcases hx with rfl | rfl | rfl <;> rfl) (by unfold maxLen; omega) (by omega) (by simp; omega) ?_; intro v' w3 hown3 hgrow3 hnil3))
            go_roundg (s.size - gapEnd s.data.toList (k + t.length))
            case measure => omega
            case rel =>
              refine ⟨_, acc ++ [⟨kd, t, k⟩], by omega, rfl, by simp; omega, ?_, ?_, Lib.hid N4.out⟩
              · rw [List.length_append, cells3_append, cells3_one, HX.out.2.2.2.2.1]; exact hown3
              · exact below_step hbel hb2 hown2 hgrow3
          · have hz : ¬ (er : Int) = 0 := by omega
            go_wp2_with (first
              | (go_at_call 12; refine (cl _).mono ?_; rintro e w' ⟨rfl, rfl⟩)
              | (go_at_call 13; refine (ck _).mono ?_; rintro e w' ⟨rfl, rfl⟩))
            try rw [Exit.noGoto_ret]
            go_ret3
            refine ⟨_, rfl, ?_, hbel⟩
            rw [run_fail (k := k) (acc := acc) (e := er) (by rw [size_data]; exact hlt) HR.out.1 (by rw [HX.out.1]; rw [HX.out.2.2.2.1, if_neg he]) HR.out.2]
            rfl
  · have hgt : 16384 < s.size := by omega
    go_enter Tryd.func7, Tryd.ntmps7
    go_wp2
    go_step3
    go_wp2
    try rw [Exit.noGoto_ret]
    go_ret3
    refine ⟨_, rfl, ?_, Below.refl _ _⟩
    unfold Tok.split
    rw [if_pos (by rw [size_data]; exact hgt)]
    rfl

end Go.Proofs.YtdlcmnfjhnfjcaaDoor
