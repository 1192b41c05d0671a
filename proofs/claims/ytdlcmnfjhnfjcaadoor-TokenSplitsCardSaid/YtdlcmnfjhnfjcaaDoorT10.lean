/-
  The walk of the reference's Split. Condition: the text's length is one that a string can have.
-/
import Derived.Test.YtdlcmnfjhnfjcaaDoorT6
import Derived.Deep.LoopGhost
namespace Go.Proofs.YtdlcmnfjhnfjcaaDoor
open Go.RowKit Tok

theorem gap_step {b : UInt8} {r : List UInt8} (h : b.toNat = 9 ∨ b.toNat = 10 ∨ b.toNat = 13 ∨ b.toNat = 32) : skip false (b :: r) = skip false r := by
  rw [skip]
  by_cases h1 : b.toNat = 10
  · rw [if_pos h1]
  · rw [if_neg h1, if_neg (by omega), if_pos (.inl ((gapB_iff b).2 (by omega)))]
theorem com_start {b : UInt8} {r : List UInt8} (h : b.toNat = 35) : skip true (b :: r) = skip false (b :: r) := by
  rw [show skip true (b :: r) = skip true r by rw [skip, if_neg (by omega), if_pos h], show skip false (b :: r) = skip true r by rw [skip, if_neg (by omega), if_pos h]]
theorem com_step {c : UInt8} {r : List UInt8} (h : c.toNat ≠ 10) : skip true (c :: r) = skip true r := by
  rw [skip, if_neg h]
  split
  · rfl
  · rw [if_pos (.inr rfl)]
theorem com_end {c : UInt8} {r : List UInt8} (h : c.toNat = 10) : skip false (c :: r) = skip true (c :: r) := by
  rw [show skip true (c :: r) = skip false r by rw [skip, if_pos h], show skip false (c :: r) = skip false r by rw [skip, if_pos h]]
theorem head_of {b : UInt8} {r : List UInt8} (h1 : b.toNat ≠ 9) (h2 : b.toNat ≠ 10) (h3 : b.toNat ≠ 13) (h4 : b.toNat ≠ 32) (h5 : b.toNat ≠ 35) : skip false (b :: r) = b :: r :=
  skip_of_head b r h2 h5 (by rw [← Bool.not_eq_true, gapB_iff]; omega)
theorem run_next0 {l t : List UInt8} {acc : List T} {k kd : Nat} (hk : k < l.length) (hg : skip false (l.drop k) = l.drop k) (hx : lex (l.drop k) = .tok kd t) (hR : Tok.split l = run l.length (l.drop k) acc) :
    Tok.split l = run l.length (l.drop (k + t.length)) (acc ++ [⟨kd, t, k⟩]) := by
  rw [hR, run_tok hg (by intro e; rw [e] at hx; cases hx) hx, List.drop_drop, List.length_drop, show l.length - (l.length - k) = k by omega]

theorem signLen_le (l : List UInt8) : signLen l ≤ l.length := by
  have h := sign_eq l
  by_cases h0 : signLen l = 0
  · omega
  · rw [if_neg h0] at h
    have h2 := (signOf_some h).1
    have h3 := (signs_pos h2).1
    rw [List.length_take] at h3
    cases l with
    | nil => simp at h3
    | cons b r =>
      unfold signLen
      cases ht : two (b :: r)
      · by_cases hb : b ∈ ones <;> simp [hb]
      · unfold two at ht
        simp only [Bool.and_eq_true, decide_eq_true_eq] at ht
        rw [if_pos rfl]; exact ht.1
theorem take_snoc_of {l r : List UInt8} {c : UInt8} {n : Nat} (h : l.drop n = c :: r) : l.take (n + 1) = l.take n ++ [c] := by
  have hn : n < l.length := by
    rcases Nat.lt_or_ge n l.length with h1 | h1
    · exact h1
    · rw [List.drop_of_length_le h1] at h; cases h
  rw [List.take_succ_eq_append_getElem hn]
  have := List.drop_eq_getElem_cons hn
  rw [h] at this
  injection this with h1 _
  rw [h1]
theorem below_drewN' {B : Nat} {a w : World} (h : Below B a w) (n : Nat) : Below B a (w.drewN n) := ⟨h.os, h.tape, h.output, h.size, h.block⟩
theorem below_step' {w wr w2 w3 : World} {e : TypeId} {v : Value} {n : Nat} {xs : List Value} {o : Obj} (h1 : Below w.heap.size w wr) (h2 : Below wr.heap.size wr w2) (h3 : w2.ownsRow w.heap.size e 3 v n xs) (h4 : (w2.alloc o).grownBy w3 v.ownBlock) : Below w.heap.size w w3 :=
  have h := h1.trans (h2.mono h1.size)
  (h.alloc h.size o).grown h4 (h.alloc h.size o).size (fun k hk => (h3.lt k hk).1)

theorem info31 : (Tryd.prog.info? 31).map (fun i => (i.zero, i.size, i.bytes)) = some (some (.agg #[.int .i64 0, .string ⟨#[]⟩, .int .i64 0]), 3, 32) := by kernel_rfl

/-- The state of the loop: k bytes are read, acc was found. -/
abbrev RefAt (s : ByteArray) (w : World) (g : Nat) (v i : Value) (wr : World) : Prop := ∃ (k : Nat) (acc : List T), k + g = s.size ∧ i = .int .i64 k ∧ acc.length ≤ k ∧ wr.ownsRow w.heap.size 31 3 v acc.length (cells3 acc) ∧ Below w.heap.size w wr ∧
        Hid (Tok.split s.data.toList = run s.data.toList.length (s.data.toList.drop k) acc)

set_option maxHeartbeats 40000000 in
set_option maxRecDepth 100000 in
theorem refSplit_any (s : ByteArray) (w : World) (hsz : s.size ≤ maxLen) : Calls Tryd.prog 8 #[.string s] w (SplitP s.data.toList w) := by
  unfold maxLen at hsz
  obtain ⟨i31, hi, hz0, hz1, hz2⟩ := info_parts info31
  by_cases hs : s.size ≤ 16384
  · have hgt : ¬ 16384 < s.size := by omega
    go_enter Tryd.func8, Tryd.ntmps8
    go_wp2
    go_loopg [5, 6] s.size (fun g v i wr => RefAt s w g v i wr)
    case atStart => exact ⟨0, [], by omega, rfl, by simp, World.ownsRow_nil _ _ _ _, Below.refl _ _, Lib.hid (by unfold Tok.split; rw [if_neg (by rw [size_data]; omega), List.drop_zero])⟩
    case round =>
      obtain ⟨k, acc, hkg, rfl, hal, hown, hbel, HR⟩ := hrel
      have hbs := hbel.size
      cases gk with
      | zero =>
        obtain rfl : k = s.size := by omega
        go_wp2_with (at_builtin; refine wpList_append_own _ rfl _ _ 26 rfl w.heap.size 31 i31 (.agg #[.int .i64 0, .string ⟨#[]⟩, .int .i64 0]) 3 32 Tryd.underlying26 hi hz0 hz1 hz2 rfl (by decide) _ _ _ rfl (hown.alloc _) ⟨wr.heap.size, 0, none⟩ 1 1 [.int .i64 6, .string ⟨#[]⟩, .int .i64 s.size] rfl rfl (cells_new3 _ _ _ _ _) (fun x hx => by simp at hx; rcases hx with rfl | rfl | rfl <;> rfl) (by unfold maxLen; omega) (by omega) (by simp; omega) ?_; intro v' w3 hown3 hgrow3 hnil3)
        go_ret3
        refine ⟨_, rfl, ?_, below_step' hbel (Below.refl _ _) hown hgrow3⟩
        rw [run_done (k := s.size) (acc := acc) (by rw [size_data]; exact Nat.le_refl _) HR.out]
        refine ⟨_, rfl, TokS.of_own (base := w.heap.size) (e := 31) (n := acc.length + 1) ?_ (by simp)⟩
        rw [cells3_append, size_data]
        exact hown3
      | succ g =>
        have hlt : k < s.size := by omega
        have HB := byte_drop s k hlt
        obtain ⟨b, hb⟩ : ∃ b, s[k] = b := ⟨_, rfl⟩
        rw [hb] at HB
        have HB := Lib.hid HB
        by_cases hgap : b.toNat = 9 ∨ b.toNat = 10 ∨ b.toNat = 13 ∨ b.toNat = 32
        · have hn := Lib.hid (gap_step (r := s.data.toList.drop (k + 1)) hgap)
          rcases hgap with h | h | h | h
          · have f9 : ((b.toNat : Int) == 9) = true := by rw [beq_iff_eq]; omega
            clear h
            as_aux_lemma =>
             go_wp2
             go_roundg g
             case measure => omega
             case rel => exact ⟨k + 1, acc, by omega, by go_num, by omega, hown, hbel, Lib.hid (by rw [HR.out, HB.out]; exact run_skip hn.out)⟩
          · have f9 : ((b.toNat : Int) == 9) = false := by rw [beq_eq_false_iff_ne]; omega
            have f10 : ((b.toNat : Int) == 10) = true := by rw [beq_iff_eq]; omega
            clear h
            as_aux_lemma =>
             go_wp2
             go_roundg g
             case measure => omega
             case rel => exact ⟨k + 1, acc, by omega, by go_num, by omega, hown, hbel, Lib.hid (by rw [HR.out, HB.out]; exact run_skip hn.out)⟩
          · have f9 : ((b.toNat : Int) == 9) = false := by rw [beq_eq_false_iff_ne]; omega
            have f10 : ((b.toNat : Int) == 10) = false := by rw [beq_eq_false_iff_ne]; omega
            have f13 : ((b.toNat : Int) == 13) = true := by rw [beq_iff_eq]; omega
            clear h
            as_aux_lemma =>
             go_wp2
             go_roundg g
             case measure => omega
             case rel => exact ⟨k + 1, acc, by omega, by go_num, by omega, hown, hbel, Lib.hid (by rw [HR.out, HB.out]; exact run_skip hn.out)⟩
          · have f9 : ((b.toNat : Int) == 9) = false := by rw [beq_eq_false_iff_ne]; omega
            have f10 : ((b.toNat : Int) == 10) = false := by rw [beq_eq_false_iff_ne]; omega
            have f13 : ((b.toNat : Int) == 13) = false := by rw [beq_eq_false_iff_ne]; omega
            have f32 : ((b.toNat : Int) == 32) = true := by rw [beq_iff_eq]; omega
            clear h
            as_aux_lemma =>
             go_wp2
             go_roundg g
             case measure => omega
             case rel => exact ⟨k + 1, acc, by omega, by go_num, by omega, hown, hbel, Lib.hid (by rw [HR.out, HB.out]; exact run_skip hn.out)⟩
        · have f9 : ((b.toNat : Int) == 9) = false := by rw [beq_eq_false_iff_ne]; omega
          have f10 : ((b.toNat : Int) == 10) = false := by rw [beq_eq_false_iff_ne]; omega
          have f13 : ((b.toNat : Int) == 13) = false := by rw [beq_eq_false_iff_ne]; omega
          have f32 : ((b.toNat : Int) == 32) = false := by rw [beq_eq_false_iff_ne]; omega
          have HG := Lib.hid hgap
          clear hgap
          by_cases h35 : b.toNat = 35
          · have f35 : ((b.toNat : Int) == 35) = true := by rw [beq_iff_eq]; omega
            have H35 := Lib.hid h35
            clear h35
            as_aux_lemma =>
              go_wp2
              go_loopg [6] (s.size - k) (fun g2 i wy => ∃ j : Nat, j + g2 = s.size ∧ k ≤ j ∧ i = .int .i64 j ∧ Hid (skip true (s.data.toList.drop j) = skip false (s.data.toList.drop k)) ∧ wr = wy)
              case atStart => exact ⟨k, by omega, Nat.le_refl _, rfl, Lib.hid (by rw [HB.out]; exact com_start H35.out), rfl⟩
              case round =>
                obtain ⟨j, hjg, hkj, rfl, HJ, rfl⟩ := hrel
                cases gk with
                | zero =>
                  obtain rfl : j = s.size := by omega
                  go_wp2
                  go_roundg 0
                  case measure => omega
                  case rel => exact ⟨s.size, acc, by omega, rfl, by omega, hown, hbel, Lib.hid (by rw [HR.out]; exact run_skip (by rw [← HJ.out, List.drop_of_length_le (by rw [size_data]; exact Nat.le_refl _)]; rfl))⟩
                | succ g2 =>
                  have hlt2 : j < s.size := by omega
                  have HB2 := byte_drop s j hlt2
                  have hne : j = k → s[j] = b := by intro e; subst e; exact hb
                  obtain ⟨c, hc⟩ : ∃ c, s[j] = c := ⟨_, rfl⟩
                  rw [hc] at HB2 hne
                  have HB2 := Lib.hid HB2
                  have HNE := Lib.hid hne
                  clear hne
                  by_cases hx : c.toNat = 10
                  · have f1 : ((c.toNat : Int) == 10) = true := by rw [beq_iff_eq]; omega
                    have hjk : k < j := by
                      rcases Nat.lt_or_eq_of_le hkj with h | h
                      · exact h
                      · have h1 := HNE.out h.symm
                        have h2 := H35.out
                        rw [h1] at hx; omega
                    have HX := Lib.hid hx
                    clear hx
                    go_wp2
                    go_roundg (s.size - j)
                    case measure => omega
                    case rel => exact ⟨j, acc, by omega, rfl, by omega, hown, hbel, Lib.hid (by rw [HR.out]; exact run_skip (by rw [← HJ.out, HB2.out]; exact (com_end HX.out).symm))⟩
                  · have f1 : ((c.toNat : Int) == 10) = false := by rw [beq_eq_false_iff_ne]; omega
                    have HX := Lib.hid hx
                    clear hx
                    go_wp2
                    go_roundg g2
                    case measure => omega
                    case rel => exact ⟨j + 1, by omega, by omega, by go_num, Lib.hid (by rw [← HJ.out, HB2.out]; exact (com_step HX.out).symm), rfl⟩
          · have f35 : ((b.toNat : Int) == 35) = false := by rw [beq_eq_false_iff_ne]; omega
            have HH := Lib.hid (show skip false (s.data.toList.drop k) = s.data.toList.drop k by rw [HB.out]; exact head_of (fun e => HG.out (.inl e)) (fun e => HG.out (.inr (.inl e))) (fun e => HG.out (.inr (.inr (.inl e)))) (fun e => HG.out (.inr (.inr (.inr e)))) h35)
            clear h35
            have c1 := fun w => refLower_any b w
            have c2 := fun w => refUpper_any b w
            have c3 := fun w => refDigit_any b w
            cases hp1 : lowB b
            · cases hp2 : uppB b
              · cases hp3 : digB b
                · as_aux_lemma =>
                    have HL := Lib.hid (show lex (s.data.toList.drop k) = sign (signOf (s.data.toList.drop k)) by rw [HB.out, lex, if_neg (by simp [hp1]), if_neg (by simp [hp2]), if_neg (by simp [hp3])])
                    rw [hp1] at c1
                    rw [hp2] at c2
                    rw [hp3] at c3
                    clear hp1 hp2 hp3
                    obtain ⟨rest, hrest⟩ : ∃ rest, s.extract k s.size = rest := ⟨_, rfl⟩
                    have hrl : rest.data.toList = s.data.toList.drop k := by rw [← hrest, Lib.extract_data, List.take_of_length_le]; rw [List.length_drop, size_data]; exact Nat.le_refl _
                    have cs := fun w => refSign_any rest b _ w (by rw [← size_data, hrl, List.length_drop, size_data]; omega) (hrl.trans HB.out)
                    rw [hrl] at cs
                    have hz := sign_eq (s.data.toList.drop k)
                    have hzl : signLen (s.data.toList.drop k) = 0 ∨ (0 < signLen (s.data.toList.drop k) ∧ ∃ t, signOf (s.data.toList.drop k) = some t ∧ t.length = signLen (s.data.toList.drop k) ∧ t = (s.data.toList.drop k).take (signLen (s.data.toList.drop k)) ∧ k + t.length ≤ s.size) := by
                      by_cases h : signLen (s.data.toList.drop k) = 0
                      · exact .inl h
                      · right
                        refine ⟨by omega, _, by rw [hz, if_neg h], ?_, rfl, ?_⟩
                        · rw [List.length_take, List.length_drop, size_data]
                          have := signLen_le (s.data.toList.drop k)
                          rw [List.length_drop, size_data] at this
                          omega
                        · rw [List.length_take, List.length_drop, size_data]; omega
                    obtain ⟨z, hze⟩ : ∃ z, signLen (s.data.toList.drop k) = z := ⟨_, rfl⟩
                    rw [hze] at hz hzl cs
                    clear hze hrl
                    rcases hzl with rfl | ⟨hz0', t, ht, htl, htt, hkt⟩
                    · have hx := Lib.hid (show lex (s.data.toList.drop k) = .err 2 by rw [HL.out, hz, if_pos rfl]; rfl)
                      clear hz
                      go_wp2_with (first | (go_at_call 16; refine (c1 _).mono ?_; rintro e w' ⟨rfl, rfl⟩) | (go_at_call 17; refine (c2 _).mono ?_; rintro e w' ⟨rfl, rfl⟩) | (go_at_call 18; refine (c3 _).mono ?_; rintro e w' ⟨rfl, rfl⟩) | (go_at_call 21; refine (cs _).mono ?_; rintro e w2 ⟨rfl, nn, rfl⟩; clear cs))
                      go_ret3
                      refine ⟨_, rfl, ?_, below_drewN' hbel _⟩
                      rw [run_fail (k := k) (acc := acc) (e := 2) (by rw [size_data]; exact hlt) HH.out hx.out HR.out]
                      rfl
                    · have hx := Lib.hid (show lex (s.data.toList.drop k) = .tok 5 t by rw [HL.out, ht]; rfl)
                      clear hz ht
                      obtain ⟨tb, htb⟩ : ∃ tb, s.extract k (k + z) = tb := ⟨_, rfl⟩
                      have htm : tb = ⟨t.toArray⟩ := mk_eq (by rw [← htb, Lib.extract_data, htt]; congr 1; omega)
                      have HTT := Lib.hid (And.intro htm htl)
                      rw [htl] at hkt
                      clear htm htl htt
                      have hzi : ¬ (z : Int) = 0 := by omega
                      go_wp2_with (first | (go_at_call 16; refine (c1 _).mono ?_; rintro e w' ⟨rfl, rfl⟩) | (go_at_call 17; refine (c2 _).mono ?_; rintro e w' ⟨rfl, rfl⟩) | (go_at_call 18; refine (c3 _).mono ?_; rintro e w' ⟨rfl, rfl⟩) | (go_at_call 21; refine (cs _).mono ?_; rintro e w2 ⟨rfl, nn, rfl⟩; clear cs; have hb2 := below_drewN' (Below.refl wr.heap.size wr) nn; have hown2 := own_below hown hb2) | (at_builtin; refine wpList_append_own _ rfl _ _ 26 rfl w.heap.size 31 i31 (.agg #[.int .i64 0, .string ⟨#[]⟩, .int .i64 0]) 3 32 Tryd.underlying26 hi hz0 hz1 hz2 rfl (by decide) _ _ _ rfl (hown2.alloc _) ⟨(wr.drewN nn).heap.size, 0, none⟩ 1 1 [.int .i64 5, .string tb, .int .i64 k] rfl rfl (cells_new3 _ _ _ _ _) (fun x hx => by simp at hx; rcases hx with rfl | rfl | rfl <;> rfl) (by unfold maxLen; omega) (by omega) (by simp; omega) ?_; intro v' w3 hown3 hgrow3 hnil3))
                      go_roundg (s.size - (k + z))
                      case measure => omega
                      case rel =>
                        refine ⟨k + z, acc ++ [⟨5, t, k⟩], by omega, by go_num, by simp; omega, ?_, ?_, Lib.hid ?_⟩
                        · rw [List.length_append, cells3_append, cells3_one, ← HTT.out.1]; exact hown3
                        · exact below_step' hbel hb2 hown2 hgrow3
                        · have := run_next0 (by rw [size_data]; exact hlt) HH.out hx.out HR.out
                          rw [HTT.out.2] at this
                          exact this
                · as_aux_lemma =>
                    have HL := Lib.hid (show lex (s.data.toList.drop k) = number b ((s.data.toList.drop k).takeWhile digB) by rw [HB.out, lex, if_neg (by simp [hp1]), if_neg (by simp [hp2]), if_pos hp3])
                    have HP := Lib.hid hp3
                    rw [hp1] at c1
                    rw [hp2] at c2
                    rw [hp3] at c3
                    clear hp1 hp2 hp3
                    go_wp2_with (first | (go_at_call 16; refine (c1 _).mono ?_; rintro e w' ⟨rfl, rfl⟩) | (go_at_call 17; refine (c2 _).mono ?_; rintro e w' ⟨rfl, rfl⟩) | (go_at_call 18; refine (c3 _).mono ?_; rintro e w' ⟨rfl, rfl⟩))
                    go_loopg [8] (s.size - (k + 1)) (fun g2 x wy => ∃ n : Nat, 1 ≤ n ∧ k + n + g2 = s.size ∧ x = .int .i64 n ∧ Hid (((s.data.toList.drop k).take n).all digB = true) ∧ wr = wy)
                    case atStart => exact ⟨1, Nat.le_refl _, by omega, rfl, Lib.hid (by rw [HB.out]; simp [HP.out]), rfl⟩
                    case round =>
                      obtain ⟨n, hn1, hng, rfl, HN, rfl⟩ := hrel
                      cases gk with
                      | zero =>
                        have hkn1 : k + n ≤ s.size := by omega
                        have hkn2 : s.size ≤ k + n := by omega
                        have HT := Lib.hid (show (s.data.toList.drop k).takeWhile digB = (s.data.toList.drop k).take n by
                          rw [tw_all n HN.out (by rw [List.length_drop, size_data]; omega), List.take_of_length_le (by rw [List.length_drop, size_data]; omega)])
                        clear hng
                        as_aux_lemma =>
                          obtain ⟨tb, htb⟩ : ∃ tb, s.extract k (k + n) = tb := ⟨_, rfl⟩
                          have htd : tb.data.toList = (s.data.toList.drop k).takeWhile digB := by rw [← htb, Lib.extract_data, HT.out]; congr 1; omega
                          have htn : tb.size = n := by rw [← size_data, htd, HT.out, List.length_take, List.length_drop, size_data]; omega
                          have htm : tb = ⟨((s.data.toList.drop k).takeWhile digB).toArray⟩ := mk_eq htd
                          have hTl : ((s.data.toList.drop k).takeWhile digB).length = n := by rw [← htd, size_data, htn]
                          have HTT := Lib.hid (And.intro htd (And.intro htn (And.intro htm hTl)))
                          clear htd htn htm hTl
                          have hall : tb.data.toList.all digB = true := by rw [HTT.out.1]; exact List.all_takeWhile
                          by_cases hy : 1 < n ∧ b.toNat = 48
                          · have hx := Lib.hid (show lex (s.data.toList.drop k) = .err 2 by rw [HL.out]; unfold number; rw [HTT.out.2.2.2, if_pos hy])
                            have hn1' : 1 < n := hy.1
                            have f48 : ((b.toNat : Int) == 48) = true := by rw [beq_iff_eq]; omega
                            clear hy
                            go_wp2_with (first | (go_at_call 16; refine (d1 _).mono ?_; rintro e w' ⟨rfl, rfl⟩) | (go_at_call 17; refine (d2 _).mono ?_; rintro e w' ⟨rfl, rfl⟩) | (go_at_call 18; refine (d3 _).mono ?_; rintro e w' ⟨rfl, rfl⟩) | (go_at_call 16; refine (c1 _).mono ?_; rintro e w' ⟨rfl, rfl⟩) | (go_at_call 17; refine (c2 _).mono ?_; rintro e w' ⟨rfl, rfl⟩) | (go_at_call 18; refine (c3 _).mono ?_; rintro e w' ⟨rfl, rfl⟩))
                            go_ret3
                            refine ⟨_, rfl, ?_, hbel⟩
                            rw [run_fail (k := k) (acc := acc) (e := 2) (by rw [size_data]; exact hlt) HH.out hx.out HR.out]
                            rfl
                          · have cv := fun w => refValue_any tb w (by rw [HTT.out.2.1]; omega) hall
                            unfold litAns at cv
                            rw [HTT.out.1] at cv
                            obtain ⟨V, hV⟩ : ∃ V : Nat, (if 1000000 < digits 0 ((s.data.toList.drop k).takeWhile digB) then 0 else digits 0 ((s.data.toList.drop k).takeWhile digB)) = V := ⟨_, rfl⟩
                            rw [hV] at cv
                            clear hV hall
                            have hy2 : ¬ 1 < n ∨ (1 < n ∧ ((b.toNat : Int) == 48) = false) := by
                              by_cases h : 1 < n
                              · exact .inr ⟨h, by rw [beq_eq_false_iff_ne]; omega⟩
                              · exact .inl h
                            by_cases hex : 1000000 < digits 0 ((s.data.toList.drop k).takeWhile digB)
                            · have hx := Lib.hid (show lex (s.data.toList.drop k) = .err 9 by rw [HL.out]; unfold number; rw [HTT.out.2.2.2, if_neg hy, if_pos hex])
                              rw [decide_eq_true hex] at cv
                              clear hy hex
                              rcases hy2 with hy2 | ⟨hy2, hy3⟩
                              all_goals
                                go_wp2_with (first | (go_at_call 16; refine (d1 _).mono ?_; rintro e w' ⟨rfl, rfl⟩) | (go_at_call 17; refine (d2 _).mono ?_; rintro e w' ⟨rfl, rfl⟩) | (go_at_call 18; refine (d3 _).mono ?_; rintro e w' ⟨rfl, rfl⟩) | (go_at_call 16; refine (c1 _).mono ?_; rintro e w' ⟨rfl, rfl⟩) | (go_at_call 17; refine (c2 _).mono ?_; rintro e w' ⟨rfl, rfl⟩) | (go_at_call 18; refine (c3 _).mono ?_; rintro e w' ⟨rfl, rfl⟩) | (go_at_call 20; refine (cv _).mono ?_; rintro e w' ⟨rfl, rfl⟩))
                                go_ret3
                                refine ⟨_, rfl, ?_, hbel⟩
                                rw [run_fail (k := k) (acc := acc) (e := 9) (by rw [size_data]; exact hlt) HH.out hx.out HR.out]
                                rfl
                            · have hx := Lib.hid (show lex (s.data.toList.drop k) = .tok 3 ((s.data.toList.drop k).takeWhile digB) by rw [HL.out]; unfold number; rw [HTT.out.2.2.2, if_neg hy, if_neg hex])
                              rw [decide_eq_false hex] at cv
                              clear hy hex
                              rcases hy2 with hy2 | ⟨hy2, hy3⟩
                              all_goals
                                go_wp2_with (first | (go_at_call 16; refine (d1 _).mono ?_; rintro e w' ⟨rfl, rfl⟩) | (go_at_call 17; refine (d2 _).mono ?_; rintro e w' ⟨rfl, rfl⟩) | (go_at_call 18; refine (d3 _).mono ?_; rintro e w' ⟨rfl, rfl⟩) | (go_at_call 16; refine (c1 _).mono ?_; rintro e w' ⟨rfl, rfl⟩) | (go_at_call 17; refine (c2 _).mono ?_; rintro e w' ⟨rfl, rfl⟩) | (go_at_call 18; refine (c3 _).mono ?_; rintro e w' ⟨rfl, rfl⟩) | (go_at_call 20; refine (cv _).mono ?_; rintro e w' ⟨rfl, rfl⟩) | (at_builtin; refine wpList_append_own _ rfl _ _ 26 rfl w.heap.size 31 i31 (.agg #[.int .i64 0, .string ⟨#[]⟩, .int .i64 0]) 3 32 Tryd.underlying26 hi hz0 hz1 hz2 rfl (by decide) _ _ _ rfl (hown.alloc _) ⟨wr.heap.size, 0, none⟩ 1 1 [.int .i64 3, .string tb, .int .i64 k] rfl rfl (cells_new3 _ _ _ _ _) (fun x hx => by simp at hx; rcases hx with rfl | rfl | rfl <;> rfl) (by unfold maxLen; omega) (by omega) (by simp; omega) ?_; intro v' w3 hown3 hgrow3 hnil3))
                                go_roundg (s.size - (k + n))
                                case measure => omega
                                case rel =>
                                  refine ⟨k + n, acc ++ [⟨3, (s.data.toList.drop k).takeWhile digB, k⟩], by omega, by go_num, by simp; omega, ?_, ?_, Lib.hid ?_⟩
                                  · rw [List.length_append, cells3_append, cells3_one, ← HTT.out.2.2.1]; exact hown3
                                  · exact below_step' hbel (Below.refl _ _) hown hgrow3
                                  · have := run_next0 (by rw [size_data]; exact hlt) HH.out hx.out HR.out
                                    rw [HTT.out.2.2.2] at this
                                    exact this
                      | succ g2 =>
                        have hlt2 : k + n < s.size := by omega
                        have HB2 := byte_drop s (k + n) hlt2
                        obtain ⟨c, hc⟩ : ∃ c, s[k + n] = c := ⟨_, rfl⟩
                        rw [hc] at HB2
                        have hdk : (s.data.toList.drop k).drop n = c :: s.data.toList.drop (k + n + 1) := by rw [List.drop_drop, HB2]
                        have HB2 := Lib.hid hdk
                        clear hdk
                        have d1 := fun w => refLower_any c w
                        have d2 := fun w => refUpper_any c w
                        have d3 := fun w => refDigit_any c w
                        cases hq : digB c
                        · rw [hq] at d3
                          have HQ := Lib.hid hq
                          clear hq d1 d2
                          have HT := Lib.hid (show (s.data.toList.drop k).takeWhile digB = (s.data.toList.drop k).take n from tw_stop n HN.out HB2.out HQ.out)
                          as_aux_lemma =>
                            obtain ⟨tb, htb⟩ : ∃ tb, s.extract k (k + n) = tb := ⟨_, rfl⟩
                            have htd : tb.data.toList = (s.data.toList.drop k).takeWhile digB := by rw [← htb, Lib.extract_data, HT.out]; congr 1; omega
                            have htn : tb.size = n := by rw [← size_data, htd, HT.out, List.length_take, List.length_drop, size_data]; omega
                            have htm : tb = ⟨((s.data.toList.drop k).takeWhile digB).toArray⟩ := mk_eq htd
                            have hTl : ((s.data.toList.drop k).takeWhile digB).length = n := by rw [← htd, size_data, htn]
                            have HTT := Lib.hid (And.intro htd (And.intro htn (And.intro htm hTl)))
                            clear htd htn htm hTl
                            have hall : tb.data.toList.all digB = true := by rw [HTT.out.1]; exact List.all_takeWhile
                            by_cases hy : 1 < n ∧ b.toNat = 48
                            · have hx := Lib.hid (show lex (s.data.toList.drop k) = .err 2 by rw [HL.out]; unfold number; rw [HTT.out.2.2.2, if_pos hy])
                              have hn1' : 1 < n := hy.1
                              have f48 : ((b.toNat : Int) == 48) = true := by rw [beq_iff_eq]; omega
                              clear hy
                              go_wp2_with (first | (go_at_call 16; refine (d1 _).mono ?_; rintro e w' ⟨rfl, rfl⟩) | (go_at_call 17; refine (d2 _).mono ?_; rintro e w' ⟨rfl, rfl⟩) | (go_at_call 18; refine (d3 _).mono ?_; rintro e w' ⟨rfl, rfl⟩) | (go_at_call 16; refine (c1 _).mono ?_; rintro e w' ⟨rfl, rfl⟩) | (go_at_call 17; refine (c2 _).mono ?_; rintro e w' ⟨rfl, rfl⟩) | (go_at_call 18; refine (c3 _).mono ?_; rintro e w' ⟨rfl, rfl⟩))
                              go_ret3
                              refine ⟨_, rfl, ?_, hbel⟩
                              rw [run_fail (k := k) (acc := acc) (e := 2) (by rw [size_data]; exact hlt) HH.out hx.out HR.out]
                              rfl
                            · have cv := fun w => refValue_any tb w (by rw [HTT.out.2.1]; omega) hall
                              unfold litAns at cv
                              rw [HTT.out.1] at cv
                              obtain ⟨V, hV⟩ : ∃ V : Nat, (if 1000000 < digits 0 ((s.data.toList.drop k).takeWhile digB) then 0 else digits 0 ((s.data.toList.drop k).takeWhile digB)) = V := ⟨_, rfl⟩
                              rw [hV] at cv
                              clear hV hall
                              have hy2 : ¬ 1 < n ∨ (1 < n ∧ ((b.toNat : Int) == 48) = false) := by
                                by_cases h : 1 < n
                                · exact .inr ⟨h, by rw [beq_eq_false_iff_ne]; omega⟩
                                · exact .inl h
                              by_cases hex : 1000000 < digits 0 ((s.data.toList.drop k).takeWhile digB)
                              · have hx := Lib.hid (show lex (s.data.toList.drop k) = .err 9 by rw [HL.out]; unfold number; rw [HTT.out.2.2.2, if_neg hy, if_pos hex])
                                rw [decide_eq_true hex] at cv
                                clear hy hex
                                rcases hy2 with hy2 | ⟨hy2, hy3⟩
                                all_goals
                                  go_wp2_with (first | (go_at_call 16; refine (d1 _).mono ?_; rintro e w' ⟨rfl, rfl⟩) | (go_at_call 17; refine (d2 _).mono ?_; rintro e w' ⟨rfl, rfl⟩) | (go_at_call 18; refine (d3 _).mono ?_; rintro e w' ⟨rfl, rfl⟩) | (go_at_call 16; refine (c1 _).mono ?_; rintro e w' ⟨rfl, rfl⟩) | (go_at_call 17; refine (c2 _).mono ?_; rintro e w' ⟨rfl, rfl⟩) | (go_at_call 18; refine (c3 _).mono ?_; rintro e w' ⟨rfl, rfl⟩) | (go_at_call 20; refine (cv _).mono ?_; rintro e w' ⟨rfl, rfl⟩))
                                  go_ret3
                                  refine ⟨_, rfl, ?_, hbel⟩
                                  rw [run_fail (k := k) (acc := acc) (e := 9) (by rw [size_data]; exact hlt) HH.out hx.out HR.out]
                                  rfl
                              · have hx := Lib.hid (show lex (s.data.toList.drop k) = .tok 3 ((s.data.toList.drop k).takeWhile digB) by rw [HL.out]; unfold number; rw [HTT.out.2.2.2, if_neg hy, if_neg hex])
                                rw [decide_eq_false hex] at cv
                                clear hy hex
                                rcases hy2 with hy2 | ⟨hy2, hy3⟩
                                all_goals
                                  go_wp2_with (first | (go_at_call 16; refine (d1 _).mono ?_; rintro e w' ⟨rfl, rfl⟩) | (go_at_call 17; refine (d2 _).mono ?_; rintro e w' ⟨rfl, rfl⟩) | (go_at_call 18; refine (d3 _).mono ?_; rintro e w' ⟨rfl, rfl⟩) | (go_at_call 16; refine (c1 _).mono ?_; rintro e w' ⟨rfl, rfl⟩) | (go_at_call 17; refine (c2 _).mono ?_; rintro e w' ⟨rfl, rfl⟩) | (go_at_call 18; refine (c3 _).mono ?_; rintro e w' ⟨rfl, rfl⟩) | (go_at_call 20; refine (cv _).mono ?_; rintro e w' ⟨rfl, rfl⟩) | (at_builtin; refine wpList_append_own _ rfl _ _ 26 rfl w.heap.size 31 i31 (.agg #[.int .i64 0, .string ⟨#[]⟩, .int .i64 0]) 3 32 Tryd.underlying26 hi hz0 hz1 hz2 rfl (by decide) _ _ _ rfl (hown.alloc _) ⟨wr.heap.size, 0, none⟩ 1 1 [.int .i64 3, .string tb, .int .i64 k] rfl rfl (cells_new3 _ _ _ _ _) (fun x hx => by simp at hx; rcases hx with rfl | rfl | rfl <;> rfl) (by unfold maxLen; omega) (by omega) (by simp; omega) ?_; intro v' w3 hown3 hgrow3 hnil3))
                                  go_roundg (s.size - (k + n))
                                  case measure => omega
                                  case rel =>
                                    refine ⟨k + n, acc ++ [⟨3, (s.data.toList.drop k).takeWhile digB, k⟩], by omega, by go_num, by simp; omega, ?_, ?_, Lib.hid ?_⟩
                                    · rw [List.length_append, cells3_append, cells3_one, ← HTT.out.2.2.1]; exact hown3
                                    · exact below_step' hbel (Below.refl _ _) hown hgrow3
                                    · have := run_next0 (by rw [size_data]; exact hlt) HH.out hx.out HR.out
                                      rw [HTT.out.2.2.2] at this
                                      exact this
                        · rw [hq] at d3
                          have HQ := Lib.hid hq
                          clear hq d1 d2
                          as_aux_lemma =>
                            go_wp2_with (first | (go_at_call 16; refine (d1 _).mono ?_; rintro e w' ⟨rfl, rfl⟩) | (go_at_call 17; refine (d2 _).mono ?_; rintro e w' ⟨rfl, rfl⟩) | (go_at_call 18; refine (d3 _).mono ?_; rintro e w' ⟨rfl, rfl⟩) | (go_at_call 16; refine (c1 _).mono ?_; rintro e w' ⟨rfl, rfl⟩) | (go_at_call 17; refine (c2 _).mono ?_; rintro e w' ⟨rfl, rfl⟩) | (go_at_call 18; refine (c3 _).mono ?_; rintro e w' ⟨rfl, rfl⟩))
                            go_roundg g2
                            case measure => omega
                            case rel => exact ⟨n + 1, by omega, by omega, by go_num, Lib.hid (by rw [take_snoc_of HB2.out, List.all_append, HN.out]; simp [HQ.out]), rfl⟩
              · as_aux_lemma =>
                  have HL := Lib.hid (show lex (s.data.toList.drop k) = word true ((s.data.toList.drop k).takeWhile nameB) by rw [HB.out, lex, if_neg (by simp [hp1]), if_pos hp2])
                  have HP := Lib.hid (nameB_of_upp hp2)

                  rw [hp1] at c1
                  rw [hp2] at c2
                  clear hp1 hp2
                  go_wp2_with (first | (go_at_call 16; refine (c1 _).mono ?_; rintro e w' ⟨rfl, rfl⟩) | (go_at_call 17; refine (c2 _).mono ?_; rintro e w' ⟨rfl, rfl⟩) | (go_at_call 18; refine (c3 _).mono ?_; rintro e w' ⟨rfl, rfl⟩))
                  go_loopg [8] (s.size - (k + 1)) (fun g2 x wy => ∃ n : Nat, 1 ≤ n ∧ k + n + g2 = s.size ∧ x = .int .i64 n ∧ Hid (((s.data.toList.drop k).take n).all nameB = true) ∧ wr = wy)
                  case atStart => exact ⟨1, Nat.le_refl _, by omega, rfl, Lib.hid (by rw [HB.out]; simp [HP.out]), rfl⟩
                  case round =>
                    obtain ⟨n, hn1, hng, rfl, HN, rfl⟩ := hrel
                    cases gk with
                    | zero =>
                      have hkn1 : k + n ≤ s.size := by omega
                      have hkn2 : s.size ≤ k + n := by omega
                      have HT := Lib.hid (show (s.data.toList.drop k).takeWhile nameB = (s.data.toList.drop k).take n by
                        rw [tw_all n HN.out (by rw [List.length_drop, size_data]; omega), List.take_of_length_le (by rw [List.length_drop, size_data]; omega)])
                      clear hng
                      as_aux_lemma =>
                        obtain ⟨tb, htb⟩ : ∃ tb, s.extract k (k + n) = tb := ⟨_, rfl⟩
                        have htd : tb.data.toList = (s.data.toList.drop k).takeWhile nameB := by rw [← htb, Lib.extract_data, HT.out]; congr 1; omega
                        have htn : tb.size = n := by rw [← size_data, htd, HT.out, List.length_take, List.length_drop, size_data]; omega
                        have htm : tb = ⟨((s.data.toList.drop k).takeWhile nameB).toArray⟩ := mk_eq htd
                        have hTl : ((s.data.toList.drop k).takeWhile nameB).length = n := by rw [← htd, size_data, htn]
                        have HTT := Lib.hid (And.intro htd (And.intro htn (And.intro htm hTl)))
                        clear htd htn htm hTl
                        by_cases hn24 : 24 < n
                        · have hx := Lib.hid (show lex (s.data.toList.drop k) = .err 9 by rw [HL.out]; unfold word; rw [HTT.out.2.2.2, if_pos hn24])
                          go_wp2_with (first | (go_at_call 16; refine (d1 _).mono ?_; rintro e w' ⟨rfl, rfl⟩) | (go_at_call 17; refine (d2 _).mono ?_; rintro e w' ⟨rfl, rfl⟩) | (go_at_call 18; refine (d3 _).mono ?_; rintro e w' ⟨rfl, rfl⟩) | (go_at_call 16; refine (c1 _).mono ?_; rintro e w' ⟨rfl, rfl⟩) | (go_at_call 17; refine (c2 _).mono ?_; rintro e w' ⟨rfl, rfl⟩) | (go_at_call 18; refine (c3 _).mono ?_; rintro e w' ⟨rfl, rfl⟩))
                          go_ret3
                          refine ⟨_, rfl, ?_, hbel⟩
                          rw [run_fail (k := k) (acc := acc) (e := 9) (by rw [size_data]; exact hlt) HH.out hx.out HR.out]
                          rfl
                        · have hx := Lib.hid (show lex (s.data.toList.drop k) = .tok 2 ((s.data.toList.drop k).takeWhile nameB) by rw [HL.out]; unfold word; rw [HTT.out.2.2.2, if_neg hn24, if_pos rfl])
                          go_wp2_with (first | (go_at_call 16; refine (d1 _).mono ?_; rintro e w' ⟨rfl, rfl⟩) | (go_at_call 17; refine (d2 _).mono ?_; rintro e w' ⟨rfl, rfl⟩) | (go_at_call 18; refine (d3 _).mono ?_; rintro e w' ⟨rfl, rfl⟩) | (go_at_call 16; refine (c1 _).mono ?_; rintro e w' ⟨rfl, rfl⟩) | (go_at_call 17; refine (c2 _).mono ?_; rintro e w' ⟨rfl, rfl⟩) | (go_at_call 18; refine (c3 _).mono ?_; rintro e w' ⟨rfl, rfl⟩) | (at_builtin; refine wpList_append_own _ rfl _ _ 26 rfl w.heap.size 31 i31 (.agg #[.int .i64 0, .string ⟨#[]⟩, .int .i64 0]) 3 32 Tryd.underlying26 hi hz0 hz1 hz2 rfl (by decide) _ _ _ rfl (hown.alloc _) ⟨wr.heap.size, 0, none⟩ 1 1 [.int .i64 2, .string tb, .int .i64 k] rfl rfl (cells_new3 _ _ _ _ _) (fun x hx => by simp at hx; rcases hx with rfl | rfl | rfl <;> rfl) (by unfold maxLen; omega) (by omega) (by simp; omega) ?_; intro v' w3 hown3 hgrow3 hnil3))
                          go_roundg (s.size - (k + n))
                          case measure => omega
                          case rel =>
                            refine ⟨k + n, acc ++ [⟨2, (s.data.toList.drop k).takeWhile nameB, k⟩], by omega, by go_num, by simp; omega, ?_, ?_, Lib.hid ?_⟩
                            · rw [List.length_append, cells3_append, cells3_one, ← HTT.out.2.2.1]; exact hown3
                            · exact below_step' hbel (Below.refl _ _) hown hgrow3
                            · have := run_next0 (by rw [size_data]; exact hlt) HH.out hx.out HR.out
                              rw [HTT.out.2.2.2] at this
                              exact this
                    | succ g2 =>
                      have hlt2 : k + n < s.size := by omega
                      have HB2 := byte_drop s (k + n) hlt2
                      obtain ⟨c, hc⟩ : ∃ c, s[k + n] = c := ⟨_, rfl⟩
                      rw [hc] at HB2
                      have hdk : (s.data.toList.drop k).drop n = c :: s.data.toList.drop (k + n + 1) := by rw [List.drop_drop, HB2]
                      have HB2 := Lib.hid hdk
                      clear hdk
                      have d1 := fun w => refLower_any c w
                      have d2 := fun w => refUpper_any c w
                      have d3 := fun w => refDigit_any c w
                      obtain ⟨e1, he1⟩ : ∃ p, lowB c = p := ⟨_, rfl⟩
                      obtain ⟨e2, he2⟩ : ∃ p, uppB c = p := ⟨_, rfl⟩
                      obtain ⟨e3, he3⟩ : ∃ p, digB c = p := ⟨_, rfl⟩
                      obtain ⟨e4, he4⟩ : ∃ p, ((c.toNat : Int) == 95) = p := ⟨_, rfl⟩
                      have hq : nameB c = (e1 || e2 || e3 || e4) := by
                        unfold nameB
                        rw [he1, he2, he3, ← he4]
                        congr 1
                        rw [Bool.eq_iff_iff]; simp; omega
                      rw [he1] at d1
                      rw [he2] at d2
                      rw [he3] at d3
                      have HQ := Lib.hid hq
                      clear hq he1 he2 he3
                      cases e1
                      · cases e2
                        · cases e3
                          · cases e4
                            · have HT := Lib.hid (show (s.data.toList.drop k).takeWhile nameB = (s.data.toList.drop k).take n from tw_stop n HN.out HB2.out HQ.out)
                              as_aux_lemma =>
                                obtain ⟨tb, htb⟩ : ∃ tb, s.extract k (k + n) = tb := ⟨_, rfl⟩
                                have htd : tb.data.toList = (s.data.toList.drop k).takeWhile nameB := by rw [← htb, Lib.extract_data, HT.out]; congr 1; omega
                                have htn : tb.size = n := by rw [← size_data, htd, HT.out, List.length_take, List.length_drop, size_data]; omega
                                have htm : tb = ⟨((s.data.toList.drop k).takeWhile nameB).toArray⟩ := mk_eq htd
                                have hTl : ((s.data.toList.drop k).takeWhile nameB).length = n := by rw [← htd, size_data, htn]
                                have HTT := Lib.hid (And.intro htd (And.intro htn (And.intro htm hTl)))
                                clear htd htn htm hTl
                                by_cases hn24 : 24 < n
                                · have hx := Lib.hid (show lex (s.data.toList.drop k) = .err 9 by rw [HL.out]; unfold word; rw [HTT.out.2.2.2, if_pos hn24])
                                  go_wp2_with (first | (go_at_call 16; refine (d1 _).mono ?_; rintro e w' ⟨rfl, rfl⟩) | (go_at_call 17; refine (d2 _).mono ?_; rintro e w' ⟨rfl, rfl⟩) | (go_at_call 18; refine (d3 _).mono ?_; rintro e w' ⟨rfl, rfl⟩) | (go_at_call 16; refine (c1 _).mono ?_; rintro e w' ⟨rfl, rfl⟩) | (go_at_call 17; refine (c2 _).mono ?_; rintro e w' ⟨rfl, rfl⟩) | (go_at_call 18; refine (c3 _).mono ?_; rintro e w' ⟨rfl, rfl⟩))
                                  go_ret3
                                  refine ⟨_, rfl, ?_, hbel⟩
                                  rw [run_fail (k := k) (acc := acc) (e := 9) (by rw [size_data]; exact hlt) HH.out hx.out HR.out]
                                  rfl
                                · have hx := Lib.hid (show lex (s.data.toList.drop k) = .tok 2 ((s.data.toList.drop k).takeWhile nameB) by rw [HL.out]; unfold word; rw [HTT.out.2.2.2, if_neg hn24, if_pos rfl])
                                  go_wp2_with (first | (go_at_call 16; refine (d1 _).mono ?_; rintro e w' ⟨rfl, rfl⟩) | (go_at_call 17; refine (d2 _).mono ?_; rintro e w' ⟨rfl, rfl⟩) | (go_at_call 18; refine (d3 _).mono ?_; rintro e w' ⟨rfl, rfl⟩) | (go_at_call 16; refine (c1 _).mono ?_; rintro e w' ⟨rfl, rfl⟩) | (go_at_call 17; refine (c2 _).mono ?_; rintro e w' ⟨rfl, rfl⟩) | (go_at_call 18; refine (c3 _).mono ?_; rintro e w' ⟨rfl, rfl⟩) | (at_builtin; refine wpList_append_own _ rfl _ _ 26 rfl w.heap.size 31 i31 (.agg #[.int .i64 0, .string ⟨#[]⟩, .int .i64 0]) 3 32 Tryd.underlying26 hi hz0 hz1 hz2 rfl (by decide) _ _ _ rfl (hown.alloc _) ⟨wr.heap.size, 0, none⟩ 1 1 [.int .i64 2, .string tb, .int .i64 k] rfl rfl (cells_new3 _ _ _ _ _) (fun x hx => by simp at hx; rcases hx with rfl | rfl | rfl <;> rfl) (by unfold maxLen; omega) (by omega) (by simp; omega) ?_; intro v' w3 hown3 hgrow3 hnil3))
                                  go_roundg (s.size - (k + n))
                                  case measure => omega
                                  case rel =>
                                    refine ⟨k + n, acc ++ [⟨2, (s.data.toList.drop k).takeWhile nameB, k⟩], by omega, by go_num, by simp; omega, ?_, ?_, Lib.hid ?_⟩
                                    · rw [List.length_append, cells3_append, cells3_one, ← HTT.out.2.2.1]; exact hown3
                                    · exact below_step' hbel (Below.refl _ _) hown hgrow3
                                    · have := run_next0 (by rw [size_data]; exact hlt) HH.out hx.out HR.out
                                      rw [HTT.out.2.2.2] at this
                                      exact this
                            · as_aux_lemma =>
                                go_wp2_with (first | (go_at_call 16; refine (d1 _).mono ?_; rintro e w' ⟨rfl, rfl⟩) | (go_at_call 17; refine (d2 _).mono ?_; rintro e w' ⟨rfl, rfl⟩) | (go_at_call 18; refine (d3 _).mono ?_; rintro e w' ⟨rfl, rfl⟩) | (go_at_call 16; refine (c1 _).mono ?_; rintro e w' ⟨rfl, rfl⟩) | (go_at_call 17; refine (c2 _).mono ?_; rintro e w' ⟨rfl, rfl⟩) | (go_at_call 18; refine (c3 _).mono ?_; rintro e w' ⟨rfl, rfl⟩))
                                go_roundg g2
                                case measure => omega
                                case rel => exact ⟨n + 1, by omega, by omega, by go_num, Lib.hid (by rw [take_snoc_of HB2.out, List.all_append, HN.out]; simp [HQ.out]), rfl⟩
                          · as_aux_lemma =>
                              go_wp2_with (first | (go_at_call 16; refine (d1 _).mono ?_; rintro e w' ⟨rfl, rfl⟩) | (go_at_call 17; refine (d2 _).mono ?_; rintro e w' ⟨rfl, rfl⟩) | (go_at_call 18; refine (d3 _).mono ?_; rintro e w' ⟨rfl, rfl⟩) | (go_at_call 16; refine (c1 _).mono ?_; rintro e w' ⟨rfl, rfl⟩) | (go_at_call 17; refine (c2 _).mono ?_; rintro e w' ⟨rfl, rfl⟩) | (go_at_call 18; refine (c3 _).mono ?_; rintro e w' ⟨rfl, rfl⟩))
                              go_roundg g2
                              case measure => omega
                              case rel => exact ⟨n + 1, by omega, by omega, by go_num, Lib.hid (by rw [take_snoc_of HB2.out, List.all_append, HN.out]; simp [HQ.out]), rfl⟩
                        · as_aux_lemma =>
                            go_wp2_with (first | (go_at_call 16; refine (d1 _).mono ?_; rintro e w' ⟨rfl, rfl⟩) | (go_at_call 17; refine (d2 _).mono ?_; rintro e w' ⟨rfl, rfl⟩) | (go_at_call 18; refine (d3 _).mono ?_; rintro e w' ⟨rfl, rfl⟩) | (go_at_call 16; refine (c1 _).mono ?_; rintro e w' ⟨rfl, rfl⟩) | (go_at_call 17; refine (c2 _).mono ?_; rintro e w' ⟨rfl, rfl⟩) | (go_at_call 18; refine (c3 _).mono ?_; rintro e w' ⟨rfl, rfl⟩))
                            go_roundg g2
                            case measure => omega
                            case rel => exact ⟨n + 1, by omega, by omega, by go_num, Lib.hid (by rw [take_snoc_of HB2.out, List.all_append, HN.out]; simp [HQ.out]), rfl⟩
                      · as_aux_lemma =>
                          go_wp2_with (first | (go_at_call 16; refine (d1 _).mono ?_; rintro e w' ⟨rfl, rfl⟩) | (go_at_call 17; refine (d2 _).mono ?_; rintro e w' ⟨rfl, rfl⟩) | (go_at_call 18; refine (d3 _).mono ?_; rintro e w' ⟨rfl, rfl⟩) | (go_at_call 16; refine (c1 _).mono ?_; rintro e w' ⟨rfl, rfl⟩) | (go_at_call 17; refine (c2 _).mono ?_; rintro e w' ⟨rfl, rfl⟩) | (go_at_call 18; refine (c3 _).mono ?_; rintro e w' ⟨rfl, rfl⟩))
                          go_roundg g2
                          case measure => omega
                          case rel => exact ⟨n + 1, by omega, by omega, by go_num, Lib.hid (by rw [take_snoc_of HB2.out, List.all_append, HN.out]; simp [HQ.out]), rfl⟩
            · as_aux_lemma =>
                have HL := Lib.hid (show lex (s.data.toList.drop k) = word false ((s.data.toList.drop k).takeWhile nameB) by rw [HB.out, lex, if_pos hp1])
                have HP := Lib.hid (nameB_of_low hp1)
                have hp2 : uppB b = false := by rw [← Bool.not_eq_true, uppB_iff]; rw [lowB_iff] at hp1; omega
                rw [hp1] at c1
                rw [hp2] at c2
                clear hp1 hp2
                go_wp2_with (first | (go_at_call 16; refine (c1 _).mono ?_; rintro e w' ⟨rfl, rfl⟩) | (go_at_call 17; refine (c2 _).mono ?_; rintro e w' ⟨rfl, rfl⟩) | (go_at_call 18; refine (c3 _).mono ?_; rintro e w' ⟨rfl, rfl⟩))
                go_loopg [8] (s.size - (k + 1)) (fun g2 x wy => ∃ n : Nat, 1 ≤ n ∧ k + n + g2 = s.size ∧ x = .int .i64 n ∧ Hid (((s.data.toList.drop k).take n).all nameB = true) ∧ wr = wy)
                case atStart => exact ⟨1, Nat.le_refl _, by omega, rfl, Lib.hid (by rw [HB.out]; simp [HP.out]), rfl⟩
                case round =>
                  obtain ⟨n, hn1, hng, rfl, HN, rfl⟩ := hrel
                  cases gk with
                  | zero =>
                    have hkn1 : k + n ≤ s.size := by omega
                    have hkn2 : s.size ≤ k + n := by omega
                    have HT := Lib.hid (show (s.data.toList.drop k).takeWhile nameB = (s.data.toList.drop k).take n by
                      rw [tw_all n HN.out (by rw [List.length_drop, size_data]; omega), List.take_of_length_le (by rw [List.length_drop, size_data]; omega)])
                    clear hng
                    as_aux_lemma =>
                      obtain ⟨tb, htb⟩ : ∃ tb, s.extract k (k + n) = tb := ⟨_, rfl⟩
                      have htd : tb.data.toList = (s.data.toList.drop k).takeWhile nameB := by rw [← htb, Lib.extract_data, HT.out]; congr 1; omega
                      have htn : tb.size = n := by rw [← size_data, htd, HT.out, List.length_take, List.length_drop, size_data]; omega
                      have htm : tb = ⟨((s.data.toList.drop k).takeWhile nameB).toArray⟩ := mk_eq htd
                      have hTl : ((s.data.toList.drop k).takeWhile nameB).length = n := by rw [← htd, size_data, htn]
                      have HTT := Lib.hid (And.intro htd (And.intro htn (And.intro htm hTl)))
                      clear htd htn htm hTl
                      by_cases hn24 : 24 < n
                      · have hx := Lib.hid (show lex (s.data.toList.drop k) = .err 9 by rw [HL.out]; unfold word; rw [HTT.out.2.2.2, if_pos hn24])
                        go_wp2_with (first | (go_at_call 16; refine (d1 _).mono ?_; rintro e w' ⟨rfl, rfl⟩) | (go_at_call 17; refine (d2 _).mono ?_; rintro e w' ⟨rfl, rfl⟩) | (go_at_call 18; refine (d3 _).mono ?_; rintro e w' ⟨rfl, rfl⟩) | (go_at_call 16; refine (c1 _).mono ?_; rintro e w' ⟨rfl, rfl⟩) | (go_at_call 17; refine (c2 _).mono ?_; rintro e w' ⟨rfl, rfl⟩) | (go_at_call 18; refine (c3 _).mono ?_; rintro e w' ⟨rfl, rfl⟩))
                        go_ret3
                        refine ⟨_, rfl, ?_, hbel⟩
                        rw [run_fail (k := k) (acc := acc) (e := 9) (by rw [size_data]; exact hlt) HH.out hx.out HR.out]
                        rfl
                      · have ck := fun w => refKeyword_any tb w
                        obtain ⟨q, hq⟩ : ∃ q, isKw tb = q := ⟨_, rfl⟩
                        simp only [hq] at ck
                        have hq2 : decide ((s.data.toList.drop k).takeWhile nameB ∈ kws) = q := by rw [← hq]; unfold isKw; rw [HTT.out.1]
                        clear hq
                        cases q
                        · have hx := Lib.hid (show lex (s.data.toList.drop k) = .tok 1 ((s.data.toList.drop k).takeWhile nameB) by rw [HL.out]; unfold word; rw [HTT.out.2.2.2, if_neg hn24, if_neg (by simp), if_neg (of_decide_eq_false hq2)])
                          clear hq2
                          go_wp2_with (first | (go_at_call 16; refine (d1 _).mono ?_; rintro e w' ⟨rfl, rfl⟩) | (go_at_call 17; refine (d2 _).mono ?_; rintro e w' ⟨rfl, rfl⟩) | (go_at_call 18; refine (d3 _).mono ?_; rintro e w' ⟨rfl, rfl⟩) | (go_at_call 16; refine (c1 _).mono ?_; rintro e w' ⟨rfl, rfl⟩) | (go_at_call 17; refine (c2 _).mono ?_; rintro e w' ⟨rfl, rfl⟩) | (go_at_call 18; refine (c3 _).mono ?_; rintro e w' ⟨rfl, rfl⟩) | (go_at_call 19; refine (ck _).mono ?_; rintro e w2 ⟨rfl, hb2⟩; have hown2 := own_below hown hb2; have hbs2 := hb2.size; clear ck) | (at_builtin; refine wpList_append_own _ rfl _ _ 26 rfl w.heap.size 31 i31 (.agg #[.int .i64 0, .string ⟨#[]⟩, .int .i64 0]) 3 32 Tryd.underlying26 hi hz0 hz1 hz2 rfl (by decide) _ _ _ rfl (hown2.alloc _) ⟨w2.heap.size, 0, none⟩ 1 1 [.int .i64 1, .string tb, .int .i64 k] rfl rfl (cells_new3 _ _ _ _ _) (fun x hx => by simp at hx; rcases hx with rfl | rfl | rfl <;> rfl) (by unfold maxLen; omega) (by omega) (by simp; omega) ?_; intro v' w3 hown3 hgrow3 hnil3))
                          go_roundg (s.size - (k + n))
                          case measure => omega
                          case rel =>
                            refine ⟨k + n, acc ++ [⟨1, (s.data.toList.drop k).takeWhile nameB, k⟩], by omega, by go_num, by simp; omega, ?_, ?_, Lib.hid ?_⟩
                            · rw [List.length_append, cells3_append, cells3_one, ← HTT.out.2.2.1]; exact hown3
                            · exact below_step' hbel hb2 hown2 hgrow3
                            · have := run_next0 (by rw [size_data]; exact hlt) HH.out hx.out HR.out
                              rw [HTT.out.2.2.2] at this
                              exact this
                        · have hx := Lib.hid (show lex (s.data.toList.drop k) = .tok 4 ((s.data.toList.drop k).takeWhile nameB) by rw [HL.out]; unfold word; rw [HTT.out.2.2.2, if_neg hn24, if_neg (by simp), if_pos (of_decide_eq_true hq2)])
                          clear hq2
                          go_wp2_with (first | (go_at_call 16; refine (d1 _).mono ?_; rintro e w' ⟨rfl, rfl⟩) | (go_at_call 17; refine (d2 _).mono ?_; rintro e w' ⟨rfl, rfl⟩) | (go_at_call 18; refine (d3 _).mono ?_; rintro e w' ⟨rfl, rfl⟩) | (go_at_call 16; refine (c1 _).mono ?_; rintro e w' ⟨rfl, rfl⟩) | (go_at_call 17; refine (c2 _).mono ?_; rintro e w' ⟨rfl, rfl⟩) | (go_at_call 18; refine (c3 _).mono ?_; rintro e w' ⟨rfl, rfl⟩) | (go_at_call 19; refine (ck _).mono ?_; rintro e w2 ⟨rfl, hb2⟩; have hown2 := own_below hown hb2; have hbs2 := hb2.size; clear ck) | (at_builtin; refine wpList_append_own _ rfl _ _ 26 rfl w.heap.size 31 i31 (.agg #[.int .i64 0, .string ⟨#[]⟩, .int .i64 0]) 3 32 Tryd.underlying26 hi hz0 hz1 hz2 rfl (by decide) _ _ _ rfl (hown2.alloc _) ⟨w2.heap.size, 0, none⟩ 1 1 [.int .i64 4, .string tb, .int .i64 k] rfl rfl (cells_new3 _ _ _ _ _) (fun x hx => by simp at hx; rcases hx with rfl | rfl | rfl <;> rfl) (by unfold maxLen; omega) (by omega) (by simp; omega) ?_; intro v' w3 hown3 hgrow3 hnil3))
                          go_roundg (s.size - (k + n))
                          case measure => omega
                          case rel =>
                            refine ⟨k + n, acc ++ [⟨4, (s.data.toList.drop k).takeWhile nameB, k⟩], by omega, by go_num, by simp; omega, ?_, ?_, Lib.hid ?_⟩
                            · rw [List.length_append, cells3_append, cells3_one, ← HTT.out.2.2.1]; exact hown3
                            · exact below_step' hbel hb2 hown2 hgrow3
                            · have := run_next0 (by rw [size_data]; exact hlt) HH.out hx.out HR.out
                              rw [HTT.out.2.2.2] at this
                              exact this
                  | succ g2 =>
                    have hlt2 : k + n < s.size := by omega
                    have HB2 := byte_drop s (k + n) hlt2
                    obtain ⟨c, hc⟩ : ∃ c, s[k + n] = c := ⟨_, rfl⟩
                    rw [hc] at HB2
                    have hdk : (s.data.toList.drop k).drop n = c :: s.data.toList.drop (k + n + 1) := by rw [List.drop_drop, HB2]
                    have HB2 := Lib.hid hdk
                    clear hdk
                    have d1 := fun w => refLower_any c w
                    have d2 := fun w => refUpper_any c w
                    have d3 := fun w => refDigit_any c w
                    obtain ⟨e1, he1⟩ : ∃ p, lowB c = p := ⟨_, rfl⟩
                    obtain ⟨e2, he2⟩ : ∃ p, uppB c = p := ⟨_, rfl⟩
                    obtain ⟨e3, he3⟩ : ∃ p, digB c = p := ⟨_, rfl⟩
                    obtain ⟨e4, he4⟩ : ∃ p, ((c.toNat : Int) == 95) = p := ⟨_, rfl⟩
                    have hq : nameB c = (e1 || e2 || e3 || e4) := by
                      unfold nameB
                      rw [he1, he2, he3, ← he4]
                      congr 1
                      rw [Bool.eq_iff_iff]; simp; omega
                    rw [he1] at d1
                    rw [he2] at d2
                    rw [he3] at d3
                    have HQ := Lib.hid hq
                    clear hq he1 he2 he3
                    cases e1
                    · cases e2
                      · cases e3
                        · cases e4
                          · have HT := Lib.hid (show (s.data.toList.drop k).takeWhile nameB = (s.data.toList.drop k).take n from tw_stop n HN.out HB2.out HQ.out)
                            as_aux_lemma =>
                              obtain ⟨tb, htb⟩ : ∃ tb, s.extract k (k + n) = tb := ⟨_, rfl⟩
                              have htd : tb.data.toList = (s.data.toList.drop k).takeWhile nameB := by rw [← htb, Lib.extract_data, HT.out]; congr 1; omega
                              have htn : tb.size = n := by rw [← size_data, htd, HT.out, List.length_take, List.length_drop, size_data]; omega
                              have htm : tb = ⟨((s.data.toList.drop k).takeWhile nameB).toArray⟩ := mk_eq htd
                              have hTl : ((s.data.toList.drop k).takeWhile nameB).length = n := by rw [← htd, size_data, htn]
                              have HTT := Lib.hid (And.intro htd (And.intro htn (And.intro htm hTl)))
                              clear htd htn htm hTl
                              by_cases hn24 : 24 < n
                              · have hx := Lib.hid (show lex (s.data.toList.drop k) = .err 9 by rw [HL.out]; unfold word; rw [HTT.out.2.2.2, if_pos hn24])
                                go_wp2_with (first | (go_at_call 16; refine (d1 _).mono ?_; rintro e w' ⟨rfl, rfl⟩) | (go_at_call 17; refine (d2 _).mono ?_; rintro e w' ⟨rfl, rfl⟩) | (go_at_call 18; refine (d3 _).mono ?_; rintro e w' ⟨rfl, rfl⟩) | (go_at_call 16; refine (c1 _).mono ?_; rintro e w' ⟨rfl, rfl⟩) | (go_at_call 17; refine (c2 _).mono ?_; rintro e w' ⟨rfl, rfl⟩) | (go_at_call 18; refine (c3 _).mono ?_; rintro e w' ⟨rfl, rfl⟩))
                                go_ret3
                                refine ⟨_, rfl, ?_, hbel⟩
                                rw [run_fail (k := k) (acc := acc) (e := 9) (by rw [size_data]; exact hlt) HH.out hx.out HR.out]
                                rfl
                              · have ck := fun w => refKeyword_any tb w
                                obtain ⟨q, hq⟩ : ∃ q, isKw tb = q := ⟨_, rfl⟩
                                simp only [hq] at ck
                                have hq2 : decide ((s.data.toList.drop k).takeWhile nameB ∈ kws) = q := by rw [← hq]; unfold isKw; rw [HTT.out.1]
                                clear hq
                                cases q
                                · have hx := Lib.hid (show lex (s.data.toList.drop k) = .tok 1 ((s.data.toList.drop k).takeWhile nameB) by rw [HL.out]; unfold word; rw [HTT.out.2.2.2, if_neg hn24, if_neg (by simp), if_neg (of_decide_eq_false hq2)])
                                  clear hq2
                                  go_wp2_with (first | (go_at_call 16; refine (d1 _).mono ?_; rintro e w' ⟨rfl, rfl⟩) | (go_at_call 17; refine (d2 _).mono ?_; rintro e w' ⟨rfl, rfl⟩) | (go_at_call 18; refine (d3 _).mono ?_; rintro e w' ⟨rfl, rfl⟩) | (go_at_call 16; refine (c1 _).mono ?_; rintro e w' ⟨rfl, rfl⟩) | (go_at_call 17; refine (c2 _).mono ?_; rintro e w' ⟨rfl, rfl⟩) | (go_at_call 18; refine (c3 _).mono ?_; rintro e w' ⟨rfl, rfl⟩) | (go_at_call 19; refine (ck _).mono ?_; rintro e w2 ⟨rfl, hb2⟩; have hown2 := own_below hown hb2; have hbs2 := hb2.size; clear ck) | (at_builtin; refine wpList_append_own _ rfl _ _ 26 rfl w.heap.size 31 i31 (.agg #[.int .i64 0, .string ⟨#[]⟩, .int .i64 0]) 3 32 Tryd.underlying26 hi hz0 hz1 hz2 rfl (by decide) _ _ _ rfl (hown2.alloc _) ⟨w2.heap.size, 0, none⟩ 1 1 [.int .i64 1, .string tb, .int .i64 k] rfl rfl (cells_new3 _ _ _ _ _) (fun x hx => by simp at hx; rcases hx with rfl | rfl | rfl <;> rfl) (by unfold maxLen; omega) (by omega) (by simp; omega) ?_; intro v' w3 hown3 hgrow3 hnil3))
                                  go_roundg (s.size - (k + n))
                                  case measure => omega
                                  case rel =>
                                    refine ⟨k + n, acc ++ [⟨1, (s.data.toList.drop k).takeWhile nameB, k⟩], by omega, by go_num, by simp; omega, ?_, ?_, Lib.hid ?_⟩
                                    · rw [List.length_append, cells3_append, cells3_one, ← HTT.out.2.2.1]; exact hown3
                                    · exact below_step' hbel hb2 hown2 hgrow3
                                    · have := run_next0 (by rw [size_data]; exact hlt) HH.out hx.out HR.out
                                      rw [HTT.out.2.2.2] at this
                                      exact this
                                · have hx := Lib.hid (show lex (s.data.toList.drop k) = .tok 4 ((s.data.toList.drop k).takeWhile nameB) by rw [HL.out]; unfold word; rw [HTT.out.2.2.2, if_neg hn24, if_neg (by simp), if_pos (of_decide_eq_true hq2)])
                                  clear hq2
                                  go_wp2_with (first | (go_at_call 16; refine (d1 _).mono ?_; rintro e w' ⟨rfl, rfl⟩) | (go_at_call 17; refine (d2 _).mono ?_; rintro e w' ⟨rfl, rfl⟩) | (go_at_call 18; refine (d3 _).mono ?_; rintro e w' ⟨rfl, rfl⟩) | (go_at_call 16; refine (c1 _).mono ?_; rintro e w' ⟨rfl, rfl⟩) | (go_at_call 17; refine (c2 _).mono ?_; rintro e w' ⟨rfl, rfl⟩) | (go_at_call 18; refine (c3 _).mono ?_; rintro e w' ⟨rfl, rfl⟩) | (go_at_call 19; refine (ck _).mono ?_; rintro e w2 ⟨rfl, hb2⟩; have hown2 := own_below hown hb2; have hbs2 := hb2.size; clear ck) | (at_builtin; refine wpList_append_own _ rfl _ _ 26 rfl w.heap.size 31 i31 (.agg #[.int .i64 0, .string ⟨#[]⟩, .int .i64 0]) 3 32 Tryd.underlying26 hi hz0 hz1 hz2 rfl (by decide) _ _ _ rfl (hown2.alloc _) ⟨w2.heap.size, 0, none⟩ 1 1 [.int .i64 4, .string tb, .int .i64 k] rfl rfl (cells_new3 _ _ _ _ _) (fun x hx => by simp at hx; rcases hx with rfl | rfl | rfl <;> rfl) (by unfold maxLen; omega) (by omega) (by simp; omega) ?_; intro v' w3 hown3 hgrow3 hnil3))
                                  go_roundg (s.size - (k + n))
                                  case measure => omega
                                  case rel =>
                                    refine ⟨k + n, acc ++ [⟨4, (s.data.toList.drop k).takeWhile nameB, k⟩], by omega, by go_num, by simp; omega, ?_, ?_, Lib.hid ?_⟩
                                    · rw [List.length_append, cells3_append, cells3_one, ← HTT.out.2.2.1]; exact hown3
                                    · exact below_step' hbel hb2 hown2 hgrow3
                                    · have := run_next0 (by rw [size_data]; exact hlt) HH.out hx.out HR.out
                                      rw [HTT.out.2.2.2] at this
                                      exact this
                          · as_aux_lemma =>
                              go_wp2_with (first | (go_at_call 16; refine (d1 _).mono ?_; rintro e w' ⟨rfl, rfl⟩) | (go_at_call 17; refine (d2 _).mono ?_; rintro e w' ⟨rfl, rfl⟩) | (go_at_call 18; refine (d3 _).mono ?_; rintro e w' ⟨rfl, rfl⟩) | (go_at_call 16; refine (c1 _).mono ?_; rintro e w' ⟨rfl, rfl⟩) | (go_at_call 17; refine (c2 _).mono ?_; rintro e w' ⟨rfl, rfl⟩) | (go_at_call 18; refine (c3 _).mono ?_; rintro e w' ⟨rfl, rfl⟩))
                              go_roundg g2
                              case measure => omega
                              case rel => exact ⟨n + 1, by omega, by omega, by go_num, Lib.hid (by rw [take_snoc_of HB2.out, List.all_append, HN.out]; simp [HQ.out]), rfl⟩
                        · as_aux_lemma =>
                            go_wp2_with (first | (go_at_call 16; refine (d1 _).mono ?_; rintro e w' ⟨rfl, rfl⟩) | (go_at_call 17; refine (d2 _).mono ?_; rintro e w' ⟨rfl, rfl⟩) | (go_at_call 18; refine (d3 _).mono ?_; rintro e w' ⟨rfl, rfl⟩) | (go_at_call 16; refine (c1 _).mono ?_; rintro e w' ⟨rfl, rfl⟩) | (go_at_call 17; refine (c2 _).mono ?_; rintro e w' ⟨rfl, rfl⟩) | (go_at_call 18; refine (c3 _).mono ?_; rintro e w' ⟨rfl, rfl⟩))
                            go_roundg g2
                            case measure => omega
                            case rel => exact ⟨n + 1, by omega, by omega, by go_num, Lib.hid (by rw [take_snoc_of HB2.out, List.all_append, HN.out]; simp [HQ.out]), rfl⟩
                      · as_aux_lemma =>
                          go_wp2_with (first | (go_at_call 16; refine (d1 _).mono ?_; rintro e w' ⟨rfl, rfl⟩) | (go_at_call 17; refine (d2 _).mono ?_; rintro e w' ⟨rfl, rfl⟩) | (go_at_call 18; refine (d3 _).mono ?_; rintro e w' ⟨rfl, rfl⟩) | (go_at_call 16; refine (c1 _).mono ?_; rintro e w' ⟨rfl, rfl⟩) | (go_at_call 17; refine (c2 _).mono ?_; rintro e w' ⟨rfl, rfl⟩) | (go_at_call 18; refine (c3 _).mono ?_; rintro e w' ⟨rfl, rfl⟩))
                          go_roundg g2
                          case measure => omega
                          case rel => exact ⟨n + 1, by omega, by omega, by go_num, Lib.hid (by rw [take_snoc_of HB2.out, List.all_append, HN.out]; simp [HQ.out]), rfl⟩
                    · as_aux_lemma =>
                        go_wp2_with (first | (go_at_call 16; refine (d1 _).mono ?_; rintro e w' ⟨rfl, rfl⟩) | (go_at_call 17; refine (d2 _).mono ?_; rintro e w' ⟨rfl, rfl⟩) | (go_at_call 18; refine (d3 _).mono ?_; rintro e w' ⟨rfl, rfl⟩) | (go_at_call 16; refine (c1 _).mono ?_; rintro e w' ⟨rfl, rfl⟩) | (go_at_call 17; refine (c2 _).mono ?_; rintro e w' ⟨rfl, rfl⟩) | (go_at_call 18; refine (c3 _).mono ?_; rintro e w' ⟨rfl, rfl⟩))
                        go_roundg g2
                        case measure => omega
                        case rel => exact ⟨n + 1, by omega, by omega, by go_num, Lib.hid (by rw [take_snoc_of HB2.out, List.all_append, HN.out]; simp [HQ.out]), rfl⟩
  · have hgt : 16384 < s.size := by omega
    go_enter Tryd.func8, Tryd.ntmps8
    go_wp2
    go_ret3
    refine ⟨_, rfl, ?_, Below.refl _ _⟩
    unfold Tok.split
    rw [if_pos (by rw [size_data]; exact hgt)]
    rfl

end Go.Proofs.YtdlcmnfjhnfjcaaDoor
