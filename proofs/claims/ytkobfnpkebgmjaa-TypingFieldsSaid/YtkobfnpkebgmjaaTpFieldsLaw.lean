/-
  The walk of the law TypingFields. No conditions.
-/
import Derived.Test.YtkobfnpkebgmjaaTpRefFields
namespace Go.Proofs.Ytkobfnpkebgmjaa
open Go.RowKit Go.Deep

theorem fieldsP_open {l : List Dec} {T : Tp} {c : Int} {N : Nat} {w w' : World} {e : Ending} (h : FieldsP l T c N w e w') : ∃ v b fs, e = .returned (.tuple #[v, .bool b]) ∧ Below w.heap.size w w' ∧ TpsC w'.cell? N v fs ∧ (fieldsR l T c = (if b then some fs else none) ∧ (b = false → fs = [])) := by
  obtain ⟨v, b, e1, hb, hr⟩ := h
  unfold FieldsR at hr
  cases hR : fieldsR l T c with
  | none =>
    rw [hR] at hr
    obtain ⟨rfl, rfl⟩ := hr
    exact ⟨_, _, [], e1, hb, RowC.nil _ _ _, rfl, fun _ => rfl⟩
  | some fs =>
    rw [hR] at hr
    obtain ⟨rfl, ht⟩ := hr
    exact ⟨_, _, fs, e1, hb, ht.kept cut_cell, rfl, fun h => by cases h⟩

set_option maxRecDepth 100000 in
set_option maxHeartbeats 8000000 in
theorem typingFields_walk (n m : Nat) (vd : Value) (l : List Dec) (cs : List Value) (T : Tp) (c : Int) (w : World) (hd : DecsC w.cell? n vd l) (hT : TpC w.cell? m cs T) :
    Calls Try.prog 3 #[vd, .agg cs.toArray, .int .i64 c] w (fun e w' => e = .returned (.bool true) ∧ Below w.heap.size w w') := by
  obtain ⟨k0, u0, a0, m0, c0, rfl⟩ := tp_shape hT
  match m, hT with
  | m + 1, hT =>
  have hb1 := below_alloc1 w (.cells #[.int .i64 k0, .int .i64 u0, .slice a0 m0 c0] 25)
  have hP := BoxV.new w w.heap.size 25 (Nat.le_refl _) [.int .i64 k0, .int .i64 u0, .slice a0 m0 c0]
  have HA := Lib.hid (And.intro (show DecsC _ n vd l from hd.kept fun _ _ h => cell_below hb1 h) (And.intro (hT.kept fun _ _ h => cell_below hb1 h) (And.intro hb1 hP)))
  clear hd hT hb1 hP
  go_enter Try.func3, Try.ntmps3
  go_wp2_with fail
  refine (data_any n vd l _ HA.out.1).mono ?_
  rintro e w2 ⟨r1, rfl, hb2, hok⟩
  cases r1
  · have HF := Lib.hid (below_next' HA.out.2.2.1 hb2)
    clear hb2 hok
    go_wp2_with fail
    go_ret
    exact ⟨rfl, HF.out⟩
  have hP2 := HA.out.2.2.2.below hb2
  have p0 := hP2.cell 0 (by simp)
  have p1 := hP2.cell 1 (by simp)
  have p2 := hP2.cell 2 (by simp)
  have HB := Lib.hid (And.intro (show DecsC _ n vd l from HA.out.1.kept fun _ _ h => cell_below hb2 h) (And.intro (HA.out.2.1.kept fun _ _ h => cell_below hb2 h) (And.intro (below_next' HA.out.2.2.1 hb2) (And.intro hP2 (hok rfl)))))
  clear hP2 hb2 hok
  go_wp2_with fail
  refine (type_any (m + 1) _ T w2 HB.out.2.1).mono ?_
  rintro e w3 ⟨rfl, hb3⟩
  obtain ⟨r2, hr2⟩ : ∃ r, tpB T = r := ⟨_, rfl⟩
  rw [hr2]
  cases r2
  · have HF := Lib.hid (below_next' HB.out.2.2.1 hb3)
    clear hb3 hr2 p0 p1 p2
    go_wp2_with fail
    go_ret
    exact ⟨rfl, HF.out⟩
  have hP3 := HB.out.2.2.2.1.below hb3
  have q0 := hP3.cell 0 (by simp)
  have q1 := hP3.cell 1 (by simp)
  have q2 := hP3.cell 2 (by simp)
  have HC := Lib.hid (And.intro (show DecsC w3.cell? n vd l from HB.out.1.kept fun _ _ h => cell_below hb3 h) (And.intro (HB.out.2.1.kept fun _ _ h => cell_below hb3 h) (And.intro (below_next' HB.out.2.2.1 hb3) (And.intro hP3 (tpB_size hr2)))))
  clear hP3 hb3 hr2 p0 p1 p2
  go_wp2_with fail
  refine (fields_any n m vd l _ T c w3 HC.out.1 HB.out.2.2.2.2 HC.out.2.1 HC.out.2.2.2.2).mono ?_
  intro e w4 hF4
  obtain ⟨v4, b4, fs4, rfl, hb4, ht4, hR4⟩ := fieldsP_open hF4
  have hP4 := HC.out.2.2.2.1.below hb4
  have p0 := hP4.cell 0 (by simp)
  have p1 := hP4.cell 1 (by simp)
  have p2 := hP4.cell 2 (by simp)
  have HD := Lib.hid (And.intro (show DecsC w4.cell? n vd l from HC.out.1.kept fun _ _ h => cell_below hb4 h) (And.intro (HC.out.2.1.kept fun _ _ h => cell_below hb4 h) (And.intro (below_next' HC.out.2.2.1 hb4) (And.intro ht4 hR4))))
  clear hP4 hb4 ht4 hR4 hF4 q0 q1 q2
  go_wp2_with fail
  refine (refFields_any n m vd l _ T c w4 HD.out.1 HB.out.2.2.2.2 HD.out.2.1 HC.out.2.2.2.2).mono ?_
  intro e w5 hF5
  obtain ⟨v5, b5, fs5, rfl, hb5, ht5, hR5⟩ := fieldsP_open hF5
  have hbb : b4 = b5 ∧ fs4 = fs5 := by
    have h4 := HD.out.2.2.2.2
    have e4 := h4.1
    rw [hR5.1] at e4
    cases b4 <;> cases b5 <;> simp_all
  obtain ⟨rfl, rfl⟩ := hbb
  have HE := Lib.hid (And.intro (below_next' HD.out.2.2.1 hb5) (And.intro (show TpsC w5.cell? (n + m) v4 fs4 from HD.out.2.2.2.1.kept fun _ _ h => cell_below hb5 h) ht5))
  clear hb5 ht5 hR5 hF5 p0 p1 p2
  go_wp2_with fail
  have hA5 := below_alloc1 w5 (.cells #[.string { data := #[67] }, .slice none 0 0] 31)
  have hA6 := below_alloc1 (w5.alloc (.cells #[.string { data := #[67] }, .slice none 0 0] 31)) (.cells #[.string { data := #[68] }, .int .i64 0, .slice (some ⟨w5.heap.size, 0, none⟩) 1 1] 34)
  have hB5 := (BoxV.new w5 w5.heap.size 31 (Nat.le_refl _) [.string { data := #[67] }, .slice none 0 0]).below hA6
  have hB6 := BoxV.new (w5.alloc (.cells #[.string { data := #[67] }, .slice none 0 0] 31)) w5.heap.size 34 (by simp) [.string { data := #[68] }, .int .i64 0, .slice (some ⟨w5.heap.size, 0, none⟩) 1 1]
  have hz : (w5.alloc (.cells #[.string { data := #[67] }, .slice none 0 0] 31)).heap.size = w5.heap.size + 1 := by simp
  rw [hz] at hB6
  have hz5 : i64 0 := by unfold i64; omega
  have hone : DecsC ((w5.alloc (.cells #[.string { data := #[67] }, .slice none 0 0] 31)).alloc (.cells #[.string { data := #[68] }, .int .i64 0, .slice (some ⟨w5.heap.size, 0, none⟩) 1 1] 34)).cell? 1 (.slice (some ⟨w5.heap.size + 1, 0, none⟩) 1 1) [⟨{ data := #[68] }, 0, [⟨{ data := #[67] }, []⟩]⟩] := by
    refine ⟨_, 1, rfl, Nat.le_refl _, by omega, fun i hi => ?_⟩
    obtain rfl : i = 0 := by simpa using hi
    refine ⟨w5.heap.size + 1, 0, [.string { data := #[68] }, .int .i64 0, .slice (some ⟨w5.heap.size, 0, none⟩) 1 1], rfl, rfl, fun j hj => ?_, .slice (some ⟨w5.heap.size, 0, none⟩) 1 1, rfl, (show (1 : Nat) ≤ 9223372036854775807 by omega), hz5, _, 1, rfl, Nat.le_refl _, by omega, fun i hi => ?_⟩
    · rw [show 0 + 0 * 3 + j = j by omega]
      exact hB6.cell j hj
    · obtain rfl : i = 0 := by simpa using hi
      refine ⟨w5.heap.size, 0, [.string { data := #[67] }, .slice none 0 0], rfl, rfl, fun j hj => ?_, .slice none 0 0, rfl, (show (1 : Nat) ≤ 9223372036854775807 by omega), RowC.nil _ _ _⟩
      rw [show 0 + 0 * 2 + j = j by omega]
      exact hB5.cell j hj
  have hT1 : TpC ((w5.alloc (.cells #[.string { data := #[67] }, .slice none 0 0] 31)).alloc (.cells #[.string { data := #[68] }, .int .i64 0, .slice (some ⟨w5.heap.size, 0, none⟩) 1 1] 34)).cell? (0 + 1) [.int .i64 5, .int .i64 0, .slice none 0 0] (.mk 5 0 []) := ⟨_, rfl, by unfold i64; omega, hz5, RowC.nil _ _ _⟩
  have hok1 : DecsOk [⟨{ data := #[68] }, 0, [⟨{ data := #[67] }, []⟩]⟩] := by
    refine ⟨by simp, fun j hj => ?_⟩
    obtain rfl : j = 0 := by simpa using hj
    refine ⟨by simp, fun q hq => ?_⟩
    obtain rfl : q = 0 := by simpa using hq
    exact ⟨by simp, by simp [sizeL]⟩
  have hcall := fields_any 1 0 _ _ _ (.mk 5 0 []) 0 _ hone hok1 hT1 (by simp [size, sizeL])
  have hb6 := below_next' (below_next' HE.out.1 hA5) hA6
  have HG := Lib.hid (And.intro hcall (And.intro hb6 (And.intro (HE.out.2.1.kept fun _ _ h => cell_below hA6 (cell_below hA5 h)) (HE.out.2.2.kept fun _ _ h => cell_below hA6 (cell_below hA5 h)))))
  clear hA5 hA6 hB5 hB6 hone hT1 hok1 hcall hb6 hz
  refine HG.out.1.mono ?_
  intro e w7 hF7
  obtain ⟨v7, b7, fs7, rfl, hb7, ht7, hR7⟩ := fieldsP_open hF7
  have hb7t : b7 = true := by
    have h1 := hR7.1
    rw [fieldsR_mk] at h1
    cases b7
    · simp [subL] at h1
    · rfl
  subst hb7t
  have HK := Lib.hid (And.intro (below_next' HG.out.2.1 hb7) (And.intro (HG.out.2.2.1.kept fun _ _ h => cell_below hb7 h) (HG.out.2.2.2.kept fun _ _ h => cell_below hb7 h)))
  clear hF7 hb7 ht7 hR7 hz5
  go_wp2_with fail
  refine (sameTypes_any (n + m) v4 v5 fs4 fs4 w7 HK.out.2.1 HK.out.2.2).mono ?_
  rintro e w8 ⟨rfl, hb8⟩
  have hs : tpsEq fs4 fs4 = true := tpsEq_true.2 rfl
  rw [hs]
  have HF := Lib.hid (below_next' HK.out.1 hb8)
  clear hs hb8
  go_wp2_with fail
  go_ret
  exact ⟨rfl, HF.out⟩
end Go.Proofs.Ytkobfnpkebgmjaa
