/-
  The walks of skipGap, checkWord, leadingWord and of the reference's sign. Conditions: as each says.
-/
import Derived.Test.YtdlcmnfjhnfjcaaDoorT4
namespace Go.Proofs.YtdlcmnfjhnfjcaaDoor
open Go.RowKit Tok

/-- Where the gap that begins at k ends. -/
def gapEnd (l : List UInt8) (k : Nat) : Nat := l.length - (skip false (l.drop k)).length
theorem gapEnd_nil {l : List UInt8} {k k0 : Nat} {c : Bool} (hk : l.length ≤ k) (h : skip c (l.drop k) = skip false (l.drop k0)) : gapEnd l k0 = l.length := by
  unfold gapEnd
  rw [← h, List.drop_of_length_le hk]
  simp [skip]
theorem gapEnd_at {l r : List UInt8} {b : UInt8} {k k0 : Nat} (hb : l.drop k = b :: r) (h : skip false (l.drop k) = skip false (l.drop k0)) (h1 : b.toNat ≠ 10) (h2 : b.toNat ≠ 35) (h3 : gapB b = false) : gapEnd l k0 = k := by
  unfold gapEnd
  rw [← h, hb, skip_of_head b r h1 h2 h3, ← hb, List.length_drop]
  have : k < l.length := by
    rcases Nat.lt_or_ge k l.length with h | h
    · exact h
    · rw [List.drop_of_length_le h] at hb; cases hb
  omega

set_option maxHeartbeats 2000000 in
theorem skipGap_any (s : ByteArray) (k0 : Nat) (w : World) (hs : s.size ≤ 16384) (hk0 : k0 ≤ s.size) :
    Calls Tryd.prog 11 #[.string s, .int .i64 k0] w (Ans w (.int .i64 (gapEnd s.data.toList k0))) := by
  go_enter Tryd.func11, Tryd.ntmps11
  go_wp2
  go_loop [1, 5] (fun i v => ∃ (k : Nat) (c : Bool), k ≤ s.size ∧ i = .int .i64 k ∧ v = .bool c ∧ skip c (s.data.toList.drop k) = skip false (s.data.toList.drop k0)) (fun i _ => s.size - (intOf i).toNat)
  case atStart => exact ⟨k0, false, hk0, rfl, rfl, rfl⟩
  case round =>
    obtain ⟨k, c, hk, rfl, rfl, hrun⟩ := hrel
    have HR := Lib.hid hrun
    clear hrun
    by_cases hlt : k < s.size
    · obtain ⟨b, hb⟩ : ∃ b, s[k] = b := ⟨_, rfl⟩
      have HB := byte_drop s k hlt
      rw [hb] at HB
      have HB := Lib.hid HB
      obtain ⟨p10, h10⟩ : ∃ p, ((b.toNat : Int) == 10) = p := ⟨_, rfl⟩
      cases p10
      · have e10 : b.toNat ≠ 10 := by simp at h10; omega
        obtain ⟨p35, h35⟩ : ∃ p, ((b.toNat : Int) == 35) = p := ⟨_, rfl⟩
        cases p35
        · have e35 : b.toNat ≠ 35 := by simp at h35; omega
          obtain ⟨p9, h9⟩ : ∃ p, ((b.toNat : Int) == 9) = p := ⟨_, rfl⟩
          obtain ⟨p13, h13⟩ : ∃ p, ((b.toNat : Int) == 13) = p := ⟨_, rfl⟩
          obtain ⟨p32, h32⟩ : ∃ p, ((b.toNat : Int) == 32) = p := ⟨_, rfl⟩
          by_cases hg : gapB b = true ∨ c = true
          · have hsk := Lib.hid (show skip c (b :: s.data.toList.drop (k + 1)) = skip c (s.data.toList.drop (k + 1)) by rw [skip, if_neg e10, if_neg e35, if_pos hg])
            have hg2 := gapB_iff b
            cases p9
            · cases p13
              · cases p32
                · have hc : c = true := by
                    rcases hg with h | h
                    · simp at h9 h13 h32; rw [hg2] at h; omega
                    · exact h
                  subst hc
                  clear hg hg2
                  have E := Lib.hid (And.intro e10 e35)
                  clear e10 e35
                  go_wp2
                  go_round
                  case rel => exact ⟨k + 1, true, by omega, by go_num, rfl, by rw [← HR.out, HB.out, hsk.out]⟩
                  case measure => simp [intOf]; omega
                · clear hg hg2
                  have E := Lib.hid (And.intro e10 e35)
                  clear e10 e35
                  go_wp2
                  go_round
                  case rel => exact ⟨k + 1, c, by omega, by go_num, rfl, by rw [← HR.out, HB.out, hsk.out]⟩
                  case measure => simp [intOf]; omega
              · clear hg hg2
                have E := Lib.hid (And.intro e10 e35)
                clear e10 e35
                go_wp2
                go_round
                case rel => exact ⟨k + 1, c, by omega, by go_num, rfl, by rw [← HR.out, HB.out, hsk.out]⟩
                case measure => simp [intOf]; omega
            · clear hg hg2
              have E := Lib.hid (And.intro e10 e35)
              clear e10 e35
              go_wp2
              go_round
              case rel => exact ⟨k + 1, c, by omega, by go_num, rfl, by rw [← HR.out, HB.out, hsk.out]⟩
              case measure => simp [intOf]; omega
          · have hgf : gapB b = false := by
              cases h : gapB b
              · rfl
              · exact absurd (.inl h) hg
            have hc : c = false := by
              cases h : c
              · rfl
              · exact absurd (.inr h) hg
            subst hc
            have hg2 : ¬ (b.toNat = 9 ∨ b.toNat = 13 ∨ b.toNat = 32) := by rw [← gapB_iff, hgf]; simp
            obtain rfl : p9 = false := by rw [← h9]; simp; omega
            obtain rfl : p13 = false := by rw [← h13]; simp; omega
            obtain rfl : p32 = false := by rw [← h32]; simp; omega
            clear hg hg2
            have E := Lib.hid (And.intro e10 (And.intro e35 hgf))
            clear e10 e35 hgf
            go_wp2
            go_ret
            exact ⟨ret_int (by rw [gapEnd_at HB.out HR.out E.out.1 E.out.2.1 E.out.2.2]), rfl⟩
        · have e35 := Lib.hid (show b.toNat = 35 by simp at h35; omega)
          have E := Lib.hid e10
          clear e10
          go_wp2
          go_round
          case rel => exact ⟨k + 1, true, by omega, by go_num, rfl, by rw [← HR.out, HB.out, skip, if_neg E.out, if_pos e35.out]⟩
          case measure => simp [intOf]; omega
      · have e10 := Lib.hid (show b.toNat = 10 by simp at h10; omega)
        go_wp2
        go_round
        case rel => exact ⟨k + 1, false, by omega, by go_num, rfl, by rw [← HR.out, HB.out, skip, if_pos e10.out]⟩
        case measure => simp [intOf]; omega
    · go_wp2
      go_ret
      exact ⟨ret_int (by rw [gapEnd_nil (by rw [size_data]; omega) HR.out, size_data]; congr 1; omega), rfl⟩

/-- What checkWord answers for a number. -/
def numErr (b : UInt8) (t : List UInt8) : Nat := if 1 < t.length ∧ b.toNat = 48 then 2 else if 1000000 < digits 0 t then 9 else 0

set_option maxHeartbeats 2000000 in
theorem checkNumber_any (s : ByteArray) (b : UInt8) (r : List UInt8) (w : World) (hs : s.size ≤ 16384) (hl : s.data.toList = b :: r) (hd : s.data.toList.all digB = true) :
    Calls Tryd.prog 13 #[.int .i64 3, .string s] w (Ans w (.int .i64 (numErr b s.data.toList))) := by
  have c := fun w => exceeds_any s w hs hd
  have h0 : 0 < s.size := by rw [← size_data, hl]; simp
  have hb0 : s[0] = b := by
    have := byte_drop s 0 h0
    rw [List.drop_zero, hl] at this
    injection this with h _
    exact h.symm
  obtain ⟨n, hn⟩ : ∃ n, n = numErr b s.data.toList := ⟨_, rfl⟩
  rw [← hn]
  obtain ⟨q, hq⟩ : ∃ q, q = decide (1000000 < digits 0 s.data.toList) := ⟨_, rfl⟩
  rw [← hq] at c
  have hn2 : n = if 1 < s.size ∧ b.toNat = 48 then 2 else if q = true then 9 else 0 := by
    rw [hn, hq]; unfold numErr; rw [size_data]; simp
  clear hn hq hl hd
  by_cases h1 : 1 < s.size
  · obtain ⟨p, hp⟩ : ∃ p, ((b.toNat : Int) == 48) = p := ⟨_, rfl⟩
    cases p
    · have e : b.toNat ≠ 48 := by simp at hp; omega
      rw [if_neg (fun h => e h.2)] at hn2
      clear e
      cases q
      · obtain rfl : n = 0 := hn2
        go_enter Tryd.func13, Tryd.ntmps13
        go_wp2_with (go_at_call 28; refine (c _).mono ?_; rintro e w' ⟨rfl, rfl⟩)
        go_ret
        exact ⟨rfl, rfl⟩
      · obtain rfl : n = 9 := hn2
        go_enter Tryd.func13, Tryd.ntmps13
        go_wp2_with (go_at_call 28; refine (c _).mono ?_; rintro e w' ⟨rfl, rfl⟩)
        go_ret
        exact ⟨rfl, rfl⟩
    · have e : b.toNat = 48 := by simp at hp; omega
      rw [if_pos ⟨h1, e⟩] at hn2
      clear e
      subst hn2
      go_enter Tryd.func13, Tryd.ntmps13
      go_wp2
      go_ret
      exact ⟨rfl, rfl⟩
  · rw [if_neg (fun h => h1 h.1)] at hn2
    cases q
    · obtain rfl : n = 0 := hn2
      go_enter Tryd.func13, Tryd.ntmps13
      go_wp2_with (go_at_call 28; refine (c _).mono ?_; rintro e w' ⟨rfl, rfl⟩)
      go_ret
      exact ⟨rfl, rfl⟩
    · obtain rfl : n = 9 := hn2
      go_enter Tryd.func13, Tryd.ntmps13
      go_wp2_with (go_at_call 28; refine (c _).mono ?_; rintro e w' ⟨rfl, rfl⟩)
      go_ret
      exact ⟨rfl, rfl⟩

/-- What checkWord answers for a name. -/
def wordErr (n : Nat) : Nat := if 24 < n then 9 else 0

set_option maxHeartbeats 2000000 in
theorem checkName_any (s : ByteArray) (k : Nat) (w : World) (hs : s.size ≤ 16384) (hk : k = 1 ∨ k = 2 ∨ k = 4) :
    Calls Tryd.prog 13 #[.int .i64 k, .string s] w (Ans w (.int .i64 (wordErr s.size))) := by
  obtain ⟨n, hn⟩ : ∃ n, n = wordErr s.size := ⟨_, rfl⟩
  rw [← hn]
  unfold wordErr at hn
  by_cases h1 : 24 < s.size
  · rw [if_pos h1] at hn
    subst hn
    rcases hk with rfl | rfl | rfl
    all_goals
      go_enter Tryd.func13, Tryd.ntmps13
      go_wp2
      go_ret
      exact ⟨rfl, rfl⟩
  · rw [if_neg h1] at hn
    subst hn
    rcases hk with rfl | rfl | rfl
    all_goals
      go_enter Tryd.func13, Tryd.ntmps13
      go_wp2
      go_ret
      exact ⟨rfl, rfl⟩

/-- What leadingWord answers, by the first byte. -/
def lead (b : UInt8) (l : List UInt8) : Nat × List UInt8 :=
  if digB b = true then (3, l.takeWhile digB) else if uppB b = true then (2, l.takeWhile nameB) else if lowB b = true then (if l.takeWhile nameB ∈ kws then (4, l.takeWhile nameB) else (1, l.takeWhile nameB)) else (0, [])
def leadV (p : Nat × List UInt8) : Value := .tuple #[.int .i64 p.1, .string ⟨p.2.toArray⟩]

theorem lead_low (s : ByteArray) (b : UInt8) (w : World) (h0 : 0 < s.size) (hb0 : s[0] = b) (tn : ByteArray) (q : Bool)
    (c1 : ∀ w, Calls Tryd.prog 22 #[.int .u8 (b.toNat : Int)] w (Ans w (.bool false)))
    (c2 : ∀ w, Calls Tryd.prog 24 #[.int .u8 (b.toNat : Int)] w (Ans w (.bool false)))
    (c3 : ∀ w, Calls Tryd.prog 26 #[.int .u8 (b.toNat : Int)] w (Ans w (.bool true)))
    (cn : ∀ w, Calls Tryd.prog 23 #[.string s, .func (.func 25) #[] #[]] w (Ans w (.string tn)))
    (ck : ∀ w, Calls Tryd.prog 27 #[.string tn] w (Ans w (.bool q))) :
    Calls Tryd.prog 12 #[.string s] w (Ans w (.tuple #[.int .i64 (cond q 4 1), .string tn])) := by
  cases q
  all_goals
    go_enter Tryd.func12, Tryd.ntmps12
    go_wp2_with (first | (go_at_call 22; refine (c1 _).mono ?_; rintro e w' ⟨rfl, rfl⟩) | (go_at_call 24; refine (c2 _).mono ?_; rintro e w' ⟨rfl, rfl⟩) | (go_at_call 26; refine (c3 _).mono ?_; rintro e w' ⟨rfl, rfl⟩) | (go_at_call 23; refine (cn _).mono ?_; rintro e w' ⟨rfl, rfl⟩) | (go_at_call 27; refine (ck _).mono ?_; rintro e w' ⟨rfl, rfl⟩))
    go_ret2
    exact ⟨rfl, rfl⟩
theorem lead_none (s : ByteArray) (b : UInt8) (w : World) (h0 : 0 < s.size) (hb0 : s[0] = b)
    (c1 : ∀ w, Calls Tryd.prog 22 #[.int .u8 (b.toNat : Int)] w (Ans w (.bool false)))
    (c2 : ∀ w, Calls Tryd.prog 24 #[.int .u8 (b.toNat : Int)] w (Ans w (.bool false)))
    (c3 : ∀ w, Calls Tryd.prog 26 #[.int .u8 (b.toNat : Int)] w (Ans w (.bool false)))
 :
    Calls Tryd.prog 12 #[.string s] w (Ans w (.tuple #[.int .i64 0, .string ⟨#[]⟩])) := by
  go_enter Tryd.func12, Tryd.ntmps12
  go_wp2_with (first | (go_at_call 22; refine (c1 _).mono ?_; rintro e w' ⟨rfl, rfl⟩) | (go_at_call 24; refine (c2 _).mono ?_; rintro e w' ⟨rfl, rfl⟩) | (go_at_call 26; refine (c3 _).mono ?_; rintro e w' ⟨rfl, rfl⟩))
  go_ret2
  exact ⟨rfl, rfl⟩
theorem lead_upp (s : ByteArray) (b : UInt8) (w : World) (h0 : 0 < s.size) (hb0 : s[0] = b) (tn : ByteArray)
    (c1 : ∀ w, Calls Tryd.prog 22 #[.int .u8 (b.toNat : Int)] w (Ans w (.bool false)))
    (c2 : ∀ w, Calls Tryd.prog 24 #[.int .u8 (b.toNat : Int)] w (Ans w (.bool true)))
    (cn : ∀ w, Calls Tryd.prog 23 #[.string s, .func (.func 25) #[] #[]] w (Ans w (.string tn))) :
    Calls Tryd.prog 12 #[.string s] w (Ans w (.tuple #[.int .i64 2, .string tn])) := by
  go_enter Tryd.func12, Tryd.ntmps12
  go_wp2_with (first | (go_at_call 22; refine (c1 _).mono ?_; rintro e w' ⟨rfl, rfl⟩) | (go_at_call 24; refine (c2 _).mono ?_; rintro e w' ⟨rfl, rfl⟩) | (go_at_call 23; refine (cn _).mono ?_; rintro e w' ⟨rfl, rfl⟩))
  go_ret2
  exact ⟨rfl, rfl⟩
theorem lead_dig (s : ByteArray) (b : UInt8) (w : World) (h0 : 0 < s.size) (hb0 : s[0] = b) (tn : ByteArray)
    (c1 : ∀ w, Calls Tryd.prog 22 #[.int .u8 (b.toNat : Int)] w (Ans w (.bool true)))
    (cn : ∀ w, Calls Tryd.prog 23 #[.string s, .func (.func 22) #[] #[]] w (Ans w (.string tn))) :
    Calls Tryd.prog 12 #[.string s] w (Ans w (.tuple #[.int .i64 3, .string tn])) := by
  go_enter Tryd.func12, Tryd.ntmps12
  go_wp2_with (first | (go_at_call 22; refine (c1 _).mono ?_; rintro e w' ⟨rfl, rfl⟩) | (go_at_call 23; refine (cn _).mono ?_; rintro e w' ⟨rfl, rfl⟩))
  go_ret2
  exact ⟨rfl, rfl⟩

theorem leadingWord_any (s : ByteArray) (b : UInt8) (r : List UInt8) (w : World) (hs : s.size ≤ 16384) (hl : s.data.toList = b :: r) :
    Calls Tryd.prog 12 #[.string s] w (Ans w (leadV (lead b s.data.toList))) := by
  have h0 : 0 < s.size := by rw [← size_data, hl]; simp
  have hb0 : s[0] = b := by
    have := byte_drop s 0 h0
    rw [List.drop_zero, hl] at this
    injection this with h _
    exact h.symm
  have c1 := fun w => isDigit_any b w
  have c2 := fun w => isUpper_any b w
  have c3 := fun w => isLower_any b w
  have cd := fun w => prefixDig_any s w hs
  have cn := fun w => prefixName_any s w hs
  have ck := fun w => keyword_any ⟨(s.data.toList.takeWhile nameB).toArray⟩ w
  unfold lead
  cases h1 : digB b
  · rw [h1] at c1
    cases h2 : uppB b
    · rw [h2] at c2
      cases h3 : lowB b
      · rw [h3] at c3
        exact lead_none s b w h0 hb0 c1 c2 c3
      · rw [h3] at c3
        have hk : isKw ⟨(s.data.toList.takeWhile nameB).toArray⟩ = decide (s.data.toList.takeWhile nameB ∈ kws) := rfl
        rw [hk] at ck
        rw [if_neg (by simp), if_neg (by simp), if_pos rfl]
        by_cases hm : s.data.toList.takeWhile nameB ∈ kws
        · rw [decide_eq_true hm] at ck
          rw [if_pos hm]
          exact lead_low s b w h0 hb0 _ true c1 c2 c3 cn ck
        · rw [decide_eq_false hm] at ck
          rw [if_neg hm]
          exact lead_low s b w h0 hb0 _ false c1 c2 c3 cn ck
    · rw [h2] at c2
      exact lead_upp s b w h0 hb0 _ c1 c2 cn
  · rw [h1] at c1
    exact lead_dig s b w h0 hb0 _ c1 cd

theorem two_iff (s : ByteArray) : two s.data.toList = (decide (2 ≤ s.size) && ((s.extract 0 2).toList == [45, 62] || (s.extract 0 2).toList == [60, 61] || (s.extract 0 2).toList == [61, 61])) := by
  unfold two
  rw [Lib.toList_data, Lib.extract_data, size_data]
  simp
theorem sign_two_walk (s : ByteArray) (w : World) (h2 : 2 ≤ s.size) (a1 a2 a3 : Bool) (h1 : ((s.extract 0 2).toList == [45, 62]) = a1) (h3 : ((s.extract 0 2).toList == [60, 61]) = a2) (h4 : ((s.extract 0 2).toList == [61, 61]) = a3) (ho : (a1 || a2 || a3) = true) :
    Calls Tryd.prog 21 #[.string s] w (Ans w (.int .i64 2)) := by
  cases a1
  · cases a2
    · cases a3
      · cases ho
      · go_enter Tryd.func21, Tryd.ntmps21
        go_wp2
        go_ret
        exact ⟨rfl, rfl⟩
    · go_enter Tryd.func21, Tryd.ntmps21
      go_wp2
      go_ret
      exact ⟨rfl, rfl⟩
  · go_enter Tryd.func21, Tryd.ntmps21
    go_wp2
    go_ret
    exact ⟨rfl, rfl⟩
def oneAt (k : Nat) : UInt8 := ones.getD k 0
theorem sign_one_walk (s : ByteArray) (w : World) (b : UInt8) (h0 : 0 < s.size) (hb0 : s[0] = b) (hs : s.size ≤ 16384) (hq : s.size < 2 ∨ (2 ≤ s.size ∧ ((s.extract 0 2).toList == [45, 62]) = false ∧ ((s.extract 0 2).toList == [60, 61]) = false ∧ ((s.extract 0 2).toList == [61, 61]) = false)) :
    Calls Tryd.prog 21 #[.string s] w fun e w' => e = .returned (.int .i64 ((if b ∈ ones then 1 else 0 : Nat) : Int)) ∧ ∃ n, w' = w.drewN n := by
  obtain ⟨A, hA⟩ : ∃ A : Nat, A = if b ∈ ones then 1 else 0 := ⟨_, rfl⟩
  rw [← hA]
  have HA := Lib.hid hA
  clear hA
  rcases hq with hq | ⟨h2, h3, h4, h5⟩
  all_goals
    go_enter Tryd.func21, Tryd.ntmps21
    go_wp2
    go_loopw [4] (fun i wr => ∃ k n : Nat, k ≤ 13 ∧ i = .int .i64 k ∧ (∀ j, j < k → oneAt j ≠ b) ∧ wr = w.drewN n) (fun i _ => 13 - (intOf i).toNat)
    case atStart => exact ⟨0, 0, by omega, rfl, fun j hj => by omega, rfl⟩
    case round =>
      obtain ⟨k, n, hk, rfl, hn, rfl⟩ := hrel
      have HN := Lib.hid hn
      clear hn
      by_cases hlt : k < 13
      · have hsz : k < (ByteArray.mk #[40, 41, 44, 61, 124, 43, 45, 42, 47, 37, 60, 59, 95]).size := hlt
        obtain ⟨c, hc⟩ : ∃ c, (ByteArray.mk #[40, 41, 44, 61, 124, 43, 45, 42, 47, 37, 60, 59, 95])[k] = c := ⟨_, rfl⟩
        have hc2 : oneAt k = c := by
          rw [← hc]
          unfold oneAt ones
          rw [List.getD_eq_getElem?_getD, List.getElem?_eq_getElem hlt]; rfl
        have HC := Lib.hid hc2
        clear hc2
        obtain ⟨q, hq⟩ : ∃ q, ((b.toNat : Int) == (c.toNat : Int)) = q := ⟨_, rfl⟩
        cases q
        · have he : c ≠ b := by intro e; subst e; simp at hq
          have HE := Lib.hid he
          clear he
          go_wp2
          go_quiet (fail)
          go_wp2
          go_roundw
          case rel => exact ⟨k + 1, _, by omega, by go_num, fun j hj => by
            rcases Nat.lt_or_eq_of_le (Nat.le_of_lt_succ hj) with h | h
            · exact HN.out j h
            · subst h; rw [HC.out]; exact HE.out, rfl⟩
          case measure => simp [intOf]; omega
        · have he : c = b := by simp at hq; exact UInt8.toNat_inj.1 (Int.ofNat.inj hq.symm)
          have hm : b ∈ ones := by
            have : ones[k]? = some c := by
              rw [← hc]
              unfold ones
              rw [List.getElem?_eq_getElem hlt]; rfl
            rw [← he]
            exact List.mem_of_getElem? this
          have HE := Lib.hid hm
          clear he hm
          go_wp2
          go_quiet (fail)
          go_wp2
          go_ret
          exact ⟨ret_int (by rw [HA.out, if_pos HE.out]; rfl), _, World.drewN_drewN _ _ _⟩
      · go_wp2
        go_ret
        refine ⟨ret_int ?_, _, rfl⟩
        rw [HA.out, if_neg]
        · rfl
        · intro hm
          obtain ⟨j, hj, e⟩ := List.mem_iff_getElem.1 hm
          have hj13 : j < 13 := hj
          refine HN.out j (by omega) ?_
          unfold oneAt
          rw [List.getD_eq_getElem?_getD, List.getElem?_eq_getElem hj, ← e]; rfl

theorem refSign_any (s : ByteArray) (b : UInt8) (r : List UInt8) (w : World) (hs : s.size ≤ 16384) (hl : s.data.toList = b :: r) :
    Calls Tryd.prog 21 #[.string s] w fun e w' => e = .returned (.int .i64 ((signLen s.data.toList : Nat) : Int)) ∧ ∃ n, w' = w.drewN n := by
  have h0 : 0 < s.size := by rw [← size_data, hl]; simp
  have hb0 : s[0] = b := by
    have := byte_drop s 0 h0
    rw [List.drop_zero, hl] at this
    injection this with h _
    exact h.symm
  cases h2 : two s.data.toList
  · have hn : signLen s.data.toList = if b ∈ ones then 1 else 0 := by unfold signLen; rw [h2, hl]; simp
    rw [hn]
    refine sign_one_walk s w b h0 hb0 hs ?_
    rw [two_iff] at h2
    by_cases hz : 2 ≤ s.size
    · right
      rw [decide_eq_true hz] at h2
      refine ⟨hz, ?_⟩
      simpa [and_assoc] using h2
    · left; omega
  · have hn : signLen s.data.toList = 2 := by unfold signLen; rw [h2]; simp
    rw [hn]
    rw [two_iff] at h2
    have hz : 2 ≤ s.size := by
      rcases Nat.lt_or_ge s.size 2 with h | h
      · rw [decide_eq_false (by omega)] at h2; simp at h2
      · exact h
    rw [decide_eq_true hz, Bool.true_and] at h2
    exact (sign_two_walk s w hz _ _ _ rfl rfl rfl h2).mono fun e w' ⟨h, h'⟩ => ⟨h, 0, by rw [← h']; rfl⟩

end Go.Proofs.YtdlcmnfjhnfjcaaDoor
