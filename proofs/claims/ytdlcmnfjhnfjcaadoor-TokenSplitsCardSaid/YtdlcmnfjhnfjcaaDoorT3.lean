/-
  The walks of the functions on one text: prefixOf, exceedsLiterals, HasPrefix, Clone, skipGap, the reference's Value and sign. Conditions: as each says.
-/
import Derived.Test.YtdlcmnfjhnfjcaaDoorT2
import Derived.Lib.Strings
import Derived.Lib.UnsafeStr
import Derived.Lib.Walk
import Derived.Laws.MakeOwn
import Derived.BigQuiet
import Derived.Deep.QuietTactic
namespace Go.Proofs.YtdlcmnfjhnfjcaaDoor
open Go.RowKit Tok

/-- Byte k of a text. -/
theorem byte_drop (s : ByteArray) (k : Nat) (h : k < s.size) : s.data.toList.drop k = s[k] :: s.data.toList.drop (k + 1) := by
  rw [List.drop_eq_getElem_cons (by simpa using h)]; rfl
theorem take_snoc (s : ByteArray) (k : Nat) (h : k < s.size) : s.data.toList.take (k + 1) = s.data.toList.take k ++ [s[k]] := by
  rw [List.take_succ_eq_append_getElem (by simpa using h)]; rfl
theorem mk_eq {s : ByteArray} {l : List UInt8} (h : s.data.toList = l) : s = ⟨l.toArray⟩ := by
  subst h; rfl
theorem str_mk {s : ByteArray} {l : List UInt8} (h : s.data.toList = l) : Value.string s = .string ⟨l.toArray⟩ := by
  rw [mk_eq h]
theorem size_data (s : ByteArray) : s.data.toList.length = s.size := by simp

theorem tw_all {p : UInt8 → Bool} : ∀ {l : List UInt8} (k : Nat), (l.take k).all p = true → l.length ≤ k → l.takeWhile p = l
  | [], _, _, _ => rfl
  | b :: r, k + 1, h, hk => by
    simp only [List.take_succ_cons, List.all_cons, Bool.and_eq_true] at h
    rw [List.takeWhile_cons_of_pos h.1, tw_all k h.2 (by simpa using hk)]
theorem tw_stop {p : UInt8 → Bool} : ∀ {l r : List UInt8} {b : UInt8} (k : Nat), (l.take k).all p = true → l.drop k = b :: r → p b = false → l.takeWhile p = l.take k
  | [], _, _, _, _, h, _ => by simp at h
  | c :: l, r, b, 0, _, h, hb => by
    simp only [List.drop_zero, List.cons.injEq] at h
    rw [h.1, List.takeWhile_cons_of_neg (by simp [hb]), List.take_zero]
  | c :: l, r, b, k + 1, h, h2, hb => by
    simp only [List.take_succ_cons, List.all_cons, Bool.and_eq_true] at h
    rw [List.takeWhile_cons_of_pos h.1, List.take_succ_cons, tw_stop k h.2 (by simpa using h2) hb]

set_option maxHeartbeats 1000000 in
theorem prefixDig_any (s : ByteArray) (w : World) (hs : s.size ≤ 16384) :
    Calls Tryd.prog 23 #[.string s, .func (.func 22) #[] #[]] w (Ans w (.string ⟨(s.data.toList.takeWhile digB).toArray⟩)) := by
  go_enter Tryd.func23, Tryd.ntmps23
  go_wp2
  go_loop [5, 8] (fun _ i => ∃ k : Nat, k ≤ s.size ∧ i = .int .i64 k ∧ (s.data.toList.take k).all digB = true) (fun _ i => s.size - (intOf i).toNat)
  case atStart => exact ⟨0, Nat.zero_le _, rfl, rfl⟩
  case round =>
    obtain ⟨k, hk, rfl, hall⟩ := hrel
    have HA := Lib.hid hall
    clear hall
    by_cases hlt : k < s.size
    · obtain ⟨b, hb⟩ : ∃ b, s[k] = b := ⟨_, rfl⟩
      have HB := byte_drop s k hlt
      have HT := take_snoc s k hlt
      rw [hb] at HB HT
      have HH := Lib.hid (And.intro HB HT)
      clear HB HT
      have c := fun w => isDigit_any b w
      obtain ⟨q, hq⟩ : ∃ q, q = digB b := ⟨_, rfl⟩
      rw [← hq] at c
      have HQ := Lib.hid hq
      clear hq
      cases q
      · go_wp2_with (go_at_call 22; refine (c _).mono ?_; rintro e w' ⟨rfl, rfl⟩)
        go_ret
        exact ⟨ret_eq (str_mk (by rw [Lib.extract_data, tw_stop k HA.out HH.out.1 HQ.out.symm]; simp)), rfl⟩
      · go_wp2_with (go_at_call 22; refine (c _).mono ?_; rintro e w' ⟨rfl, rfl⟩)
        go_round
        case rel => exact ⟨k + 1, by omega, by go_num, by rw [HH.out.2, List.all_append, HA.out]; simp [← HQ.out]⟩
        case measure => simp [intOf]; omega
    · go_wp2
      go_ret
      exact ⟨ret_eq (str_mk (by rw [tw_all k HA.out (by rw [size_data]; omega)])), rfl⟩

set_option maxHeartbeats 1000000 in
theorem prefixName_any (s : ByteArray) (w : World) (hs : s.size ≤ 16384) :
    Calls Tryd.prog 23 #[.string s, .func (.func 25) #[] #[]] w (Ans w (.string ⟨(s.data.toList.takeWhile nameB).toArray⟩)) := by
  go_enter Tryd.func23, Tryd.ntmps23
  go_wp2
  go_loop [5, 8] (fun _ i => ∃ k : Nat, k ≤ s.size ∧ i = .int .i64 k ∧ (s.data.toList.take k).all nameB = true) (fun _ i => s.size - (intOf i).toNat)
  case atStart => exact ⟨0, Nat.zero_le _, rfl, rfl⟩
  case round =>
    obtain ⟨k, hk, rfl, hall⟩ := hrel
    have HA := Lib.hid hall
    clear hall
    by_cases hlt : k < s.size
    · obtain ⟨b, hb⟩ : ∃ b, s[k] = b := ⟨_, rfl⟩
      have HB := byte_drop s k hlt
      have HT := take_snoc s k hlt
      rw [hb] at HB HT
      have HH := Lib.hid (And.intro HB HT)
      clear HB HT
      have c := fun w => isNameByte_any b w
      obtain ⟨q, hq⟩ : ∃ q, q = nameB b := ⟨_, rfl⟩
      rw [← hq] at c
      have HQ := Lib.hid hq
      clear hq
      cases q
      · go_wp2_with (go_at_call 25; refine (c _).mono ?_; rintro e w' ⟨rfl, rfl⟩)
        go_ret
        exact ⟨ret_eq (str_mk (by rw [Lib.extract_data, tw_stop k HA.out HH.out.1 HQ.out.symm]; simp)), rfl⟩
      · go_wp2_with (go_at_call 25; refine (c _).mono ?_; rintro e w' ⟨rfl, rfl⟩)
        go_round
        case rel => exact ⟨k + 1, by omega, by go_num, by rw [HH.out.2, List.all_append, HA.out]; simp [← HQ.out]⟩
        case measure => simp [intOf]; omega
    · go_wp2
      go_ret
      exact ⟨ret_eq (str_mk (by rw [tw_all k HA.out (by rw [size_data]; omega)])), rfl⟩

theorem all_at {p : UInt8 → Bool} {l r : List UInt8} {b : UInt8} {k : Nat} (h : l.all p = true) (hd : l.drop k = b :: r) : p b = true := by
  have hm : b ∈ l := List.mem_of_mem_drop (i := k) (by rw [hd]; simp)
  exact List.all_eq_true.1 h b hm
theorem digits_take (l : List UInt8) (k : Nat) : digits 0 (l.take k) ≤ digits 0 l := by
  conv => rhs; rw [← List.take_append_drop k l, digits_append]
  exact digits_ge _ _

set_option maxHeartbeats 1000000 in
theorem exceeds_any (s : ByteArray) (w : World) (hs : s.size ≤ 16384) (hd : s.data.toList.all digB = true) :
    Calls Tryd.prog 28 #[.string s] w (Ans w (.bool (decide (1000000 < digits 0 s.data.toList)))) := by
  have HD := Lib.hid hd
  clear hd
  go_enter Tryd.func28, Tryd.ntmps28
  go_wp2
  go_loop [3, 4, 7] (fun v _ i => ∃ k V : Nat, k ≤ s.size ∧ i = .int .i64 k ∧ v = .int .i64 V ∧ V ≤ 1000000 ∧ V = digits 0 (s.data.toList.take k)) (fun _ _ i => s.size - (intOf i).toNat)
  case atStart => exact ⟨0, 0, Nat.zero_le _, rfl, rfl, by omega, rfl⟩
  case round =>
    obtain ⟨k, V, hk, rfl, rfl, hV, hval⟩ := hrel
    have HV := Lib.hid hval
    clear hval
    by_cases hlt : k < s.size
    · obtain ⟨b, hb⟩ : ∃ b, s[k] = b := ⟨_, rfl⟩
      have HB := byte_drop s k hlt
      have HT := take_snoc s k hlt
      rw [hb] at HB HT
      obtain ⟨h1, h2⟩ := (digB_iff b).1 (all_at HD.out HB)
      have HH := Lib.hid (And.intro HB HT)
      clear HB HT
      have hn : digits 0 (s.data.toList.take (k + 1)) = 10 * V + (b.toNat - 48) := by rw [HH.out.2, digits_snoc, ← HV.out]
      have HN := Lib.hid hn
      clear hn
      by_cases hg : 1000000 < 10 * (V : Int) + ((b.toNat : Int) - 48)
      · go_wp2
        go_ret
        refine ⟨ret_bool ?_, rfl⟩
        have := digits_take s.data.toList (k + 1)
        rw [HN.out] at this
        symm
        rw [decide_eq_true_iff]
        omega
      · go_wp2
        go_round
        case rel => exact ⟨k + 1, 10 * V + (b.toNat - 48), by omega, by go_num, by congr 1; omega, by omega, HN.out.symm⟩
        case measure => simp [intOf]; omega
    · go_wp2
      go_ret
      refine ⟨ret_bool ?_, rfl⟩
      have := HV.out
      rw [List.take_of_length_le (by rw [size_data]; omega)] at this
      symm
      rw [decide_eq_false_iff_not]
      omega

def litAns (l : List UInt8) : Value := .tuple #[.int .i64 ((if 1000000 < digits 0 l then 0 else digits 0 l : Nat) : Int), .bool (!decide (1000000 < digits 0 l))]

set_option maxHeartbeats 1000000 in
theorem refValue_any (s : ByteArray) (w : World) (hs : s.size ≤ 16384) (hd : s.data.toList.all digB = true) :
    Calls Tryd.prog 20 #[.string s] w (Ans w (litAns s.data.toList)) := by
  have HD := Lib.hid hd
  clear hd
  go_enter Tryd.func20, Tryd.ntmps20
  go_wp2
  go_loop [4, 5] (fun v i => ∃ k V : Nat, k ≤ s.size ∧ i = .int .i64 k ∧ v = .int .i64 V ∧ V ≤ 1000000 ∧ V = digits 0 (s.data.toList.take k)) (fun _ i => s.size - (intOf i).toNat)
  case atStart => exact ⟨0, 0, Nat.zero_le _, rfl, rfl, by omega, rfl⟩
  case round =>
    obtain ⟨k, V, hk, rfl, rfl, hV, hval⟩ := hrel
    have HV := Lib.hid hval
    clear hval
    by_cases hlt : k < s.size
    · obtain ⟨b, hb⟩ : ∃ b, s[k] = b := ⟨_, rfl⟩
      have HB := byte_drop s k hlt
      have HT := take_snoc s k hlt
      rw [hb] at HB HT
      obtain ⟨h1, h2⟩ := (digB_iff b).1 (all_at HD.out HB)
      have HH := Lib.hid (And.intro HB HT)
      clear HB HT
      have hn : digits 0 (s.data.toList.take (k + 1)) = 10 * V + (b.toNat - 48) := by rw [HH.out.2, digits_snoc, ← HV.out]
      have HN := Lib.hid hn
      clear hn
      by_cases hg : 1000000 < (V : Int) * 10 + ((b.toNat : Int) - 48)
      · go_wp2
        have hx : 1000000 < digits 0 s.data.toList := by
          have := digits_take s.data.toList (k + 1)
          rw [HN.out] at this
          omega
        go_ret2
        exact ⟨by unfold litAns; rw [if_pos hx, decide_eq_true hx]; rfl, rfl⟩
      · go_wp2
        go_round
        case rel => exact ⟨k + 1, 10 * V + (b.toNat - 48), by omega, by go_num, by congr 1; omega, by omega, HN.out.symm⟩
        case measure => simp [intOf]; omega
    · go_wp2
      have hV2 := HV.out
      rw [List.take_of_length_le (by rw [size_data]; omega)] at hV2
      have hx : ¬ 1000000 < digits 0 s.data.toList := by omega
      go_ret2
      exact ⟨by unfold litAns; rw [if_neg hx, decide_eq_false hx, ← hV2]; rfl, rfl⟩

end Go.Proofs.YtdlcmnfjhnfjcaaDoor
