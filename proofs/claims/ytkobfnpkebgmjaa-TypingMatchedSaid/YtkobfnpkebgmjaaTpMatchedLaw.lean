/-
  The walk of the law TypingMatched, given what Ground answers at int. No other condition.
-/
import Derived.Test.YtkobfnpkebgmjaaTpMatch2
namespace Go.Proofs.Ytkobfnpkebgmjaa
open Go.RowKit Go.Deep

/-- What Ground answers at int. -/
def GroundP : Prop := ∀ w : World, Calls Try.prog 16 #[.agg #[.int .i64 1, .int .i64 0, .slice none 0 0]] w (fun e w' => e = .returned (.bool true) ∧ Below w.heap.size w w')
/-- An answer that is true, and something beside it. -/
def YesV (_w : World) (v : Value) : Prop := ∃ u, v = .tuple #[u, .bool true]

/-- What the slots of 'ok && !keep.SameType(typing.Subst(t, l), u)' hold. -/
def kOne (g1 g2 : Nat) (va a1 a2 : Value) (B n : Nat) (x : Tp) : Tmp → Kf Rb
  | 3 => .val (.pointer (some ⟨g1, 0, none⟩))
  | 4 => .val (.pointer (some ⟨g2, 0, none⟩))
  | 7 => .val va
  | 8 => .val (.bool true)
  | 35 => .val (.bool true)
  | 36 => .val (.bool true)
  | 37 => .val a1
  | 38 => .val va
  | 39 => .fact (AggTp B n x) AggTp.mono
  | 40 => .val a2
  | 41 => .val (.bool true)
  | 42 => .val (.bool false)
  | 43 => .val (.bool false)
  | _ => .any
/-- What the slots of '_, ok := typing.Match(t, typing.Subst(t, args))' hold. -/
def kTwo (g1 : Nat) (va a1 : Value) (B n : Nat) (x : Tp) : Tmp → Kf Rb
  | 2 => .val va
  | 3 => .val (.pointer (some ⟨g1, 0, none⟩))
  | 49 => .val a1
  | 50 => .val a1
  | 51 => .val va
  | 52 => .fact (AggTp B n x) AggTp.mono
  | 53 => .fact YesV (fun _ _ _ _ h => h)
  | 48 => .fact YesV (fun _ _ _ _ h => h)
  | 55 => .val (.bool true)
  | 10 => .val (.bool true)
  | _ => .any

set_option maxRecDepth 100000 in
set_option maxHeartbeats 16000000 in
theorem typingMatched_walk (hGround : GroundP) (n m q : Nat) (cs cs' : List Value) (T U : Tp) (va : Value) (ls : List Tp) (w : World) (hT : TpC w.cell? n cs T) (hU : TpC w.cell? m cs' U) (hA : TpsC w.cell? q va ls) :
    Calls Try.prog 4 #[.agg cs.toArray, .agg cs'.toArray, va] w (fun e w' => e = .returned (.bool true) ∧ Below w.heap.size w w') := by
  obtain ⟨k0, u0, a0, m0, c0, rfl⟩ := tp_shape hT
  obtain ⟨k1, u1, a1, m1, c1, rfl⟩ := tp_shape hU
  have hA' := hA
  obtain ⟨aa, ca, rfl, hca, hca2, -⟩ := hA
  have hbA := below_alloc1 w (.cells #[.int .i64 k0, .int .i64 u0, .slice a0 m0 c0] 25)
  have hbB := below_alloc1 (w.alloc (.cells #[.int .i64 k0, .int .i64 u0, .slice a0 m0 c0] 25)) (.cells #[.int .i64 k1, .int .i64 u1, .slice a1 m1 c1] 25)
  have hB1 := (BoxV.new w w.heap.size 25 (Nat.le_refl _) [.int .i64 k0, .int .i64 u0, .slice a0 m0 c0]).below hbB
  have hB2 := BoxV.new (w.alloc (.cells #[.int .i64 k0, .int .i64 u0, .slice a0 m0 c0] 25)) w.heap.size 25 (by simp) [.int .i64 k1, .int .i64 u1, .slice a1 m1 c1]
  have hz : (w.alloc (.cells #[.int .i64 k0, .int .i64 u0, .slice a0 m0 c0] 25)).heap.size = w.heap.size + 1 := by simp
  rw [hz] at hB2
  have hbW : Below w.heap.size w ((w.alloc (.cells #[.int .i64 k0, .int .i64 u0, .slice a0 m0 c0] 25)).alloc (.cells #[.int .i64 k1, .int .i64 u1, .slice a1 m1 c1] 25)) := (below_alloc1 w _).alloc (by simp) _
  obtain ⟨W0, hW0⟩ : ∃ W, (w.alloc (.cells #[.int .i64 k0, .int .i64 u0, .slice a0 m0 c0] 25)).alloc (.cells #[.int .i64 k1, .int .i64 u1, .slice a1 m1 c1] 25) = W := ⟨_, rfl⟩
  rw [hW0] at hbW hB1 hB2
  have HW := Lib.hid hW0
  have H0 := Lib.hid (And.intro (hT.kept fun _ _ h => cell_below hbW h) (And.intro (hU.kept fun _ _ h => cell_below hbW h) (And.intro (hA'.kept fun _ _ h => cell_below hbW h) (And.intro hbW (And.intro hB1 hB2)))))
  clear hbA hbB hB1 hB2 hz hbW hT hU hA' hW0
  go_enter Try.func4, Try.ntmps4
  go_wp2_with fail
  rw [HW.out]
  refine (type_any n _ T W0 H0.out.1).mono ?_
  rintro e w1 ⟨rfl, hb1⟩
  obtain ⟨r1, hr1⟩ : ∃ r, tpB T = r := ⟨_, rfl⟩
  rw [hr1]
  have hbw1 := below_next' H0.out.2.2.2.1 hb1
  cases r1
  · have HF := Lib.hid hbw1
    clear hb1 hr1 hbw1
    go_wp2_with fail
    go_ret
    exact ⟨rfl, HF.out⟩
  have hsT := tpB_size hr1
  have hU1 := H0.out.2.2.2.2.2.below hb1
  have v0 := hU1.cell 0 (by simp)
  have v1 := hU1.cell 1 (by simp)
  have v2 := hU1.cell 2 (by simp)
  have H1 := Lib.hid (And.intro (H0.out.2.1.kept fun _ _ h => cell_below hb1 h) (And.intro hbw1 (And.intro hb1 (And.intro (H0.out.2.2.2.2.1.below hb1) hU1))))
  clear hb1 hr1 hbw1 hU1
  go_wp2_with fail
  refine (type_any m _ U w1 H1.out.1).mono ?_
  rintro e w2 ⟨rfl, hb2⟩
  obtain ⟨r2, hr2⟩ : ∃ r, tpB U = r := ⟨_, rfl⟩
  rw [hr2]
  have hbw2 := below_next' H1.out.2.1 hb2
  cases r2
  · have HF := Lib.hid hbw2
    clear hb2 hr2 hbw2 v0 v1 v2
    go_wp2_with fail
    go_ret
    exact ⟨rfl, HF.out⟩
  have hsU := tpB_size hr2
  have hb02 := below_next' H1.out.2.2.1 hb2
  have H2 := Lib.hid (And.intro (show TpsC w2.cell? q (.slice aa ls.length ca) ls from H0.out.2.2.1.kept fun _ _ h => cell_below hb02 h) (And.intro hbw2 (And.intro hb02 (And.intro (H1.out.2.2.2.1.below hb2) (H1.out.2.2.2.2.below hb2)))))
  clear hb2 hr2 hbw2 hb02 v0 v1 v2
  go_wp2_with fail
  refine (types_any q 4 (.slice aa ls.length ca) ls w2 H2.out.1 (by omega)).mono ?_
  rintro e w3 ⟨r3, rfl, hb3, hok3⟩
  have hbw3 := below_next' H2.out.2.1 hb3
  cases r3
  · have HF := Lib.hid hbw3
    clear hb3 hok3 hbw3
    go_wp2_with fail
    go_ret
    exact ⟨rfl, HF.out⟩
  have hls := hok3 rfl
  have hb03 := below_next' H2.out.2.2.1 hb3
  have hT3 := H2.out.2.2.2.1.below hb3
  have x0 := hT3.cell 0 (by simp)
  have x1 := hT3.cell 1 (by simp)
  have x2 := hT3.cell 2 (by simp)
  have H3 := Lib.hid (And.intro (H0.out.1.kept fun _ _ h => cell_below hb03 h) (And.intro hbw3 (And.intro hb03 (And.intro hT3 (And.intro (H2.out.2.2.2.2.below hb3) (And.intro hls (And.intro hsT hsU)))))))
  clear hb3 hok3 hbw3 hb03 hT3 hls hsT hsU
  go_wp2_with fail
  refine (size_any n _ T w3 H3.out.1 (by have := H3.out.2.2.2.2.2.2.1; omega)).mono ?_
  rintro e w4 ⟨rfl, hb4⟩
  obtain ⟨S, hS⟩ : ∃ S, size T = S := ⟨_, rfl⟩
  rw [hS]
  have hbw4 := below_next' H3.out.2.1 hb4
  by_cases hbig : 40 < S
  · have hbig' : (40 : Int) < (S : Int) := by omega
    have HF := Lib.hid hbw4
    clear hb4 hbw4 x0 x1 x2 hS
    go_wp2_with fail
    go_ret
    exact ⟨rfl, HF.out⟩
  have hbig' : ¬ (40 : Int) < (S : Int) := by omega
  have hsT40 : size T ≤ 40 := by omega
  have hb04 := below_next' H3.out.2.2.1 hb4
  have hT4 := H3.out.2.2.2.1.below hb4
  have hU4 := H3.out.2.2.2.2.1.below hb4
  have y0 := hT4.cell 0 (by simp)
  have y1 := hT4.cell 1 (by simp)
  have y2 := hT4.cell 2 (by simp)
  have z0 := hU4.cell 0 (by simp)
  have z1 := hU4.cell 1 (by simp)
  have z2 := hU4.cell 2 (by simp)
  have H4 := Lib.hid (And.intro (H0.out.1.kept fun _ _ h => cell_below hb04 h) (And.intro (H0.out.2.1.kept fun _ _ h => cell_below hb04 h) (And.intro hbw4 (And.intro hb04 (And.intro hT4 (And.intro hU4 hsT40))))))
  clear hb4 hbw4 x0 x1 x2 hS hsT40 hb04 hT4 hU4 hbig
  go_wp2_with fail
  refine (matchTop_any n m _ _ T U w4 H4.out.1 H4.out.2.1 (by have := H3.out.2.2.2.2.2.2.2; omega)).mono ?_
  rintro e w5 ⟨v, b, rfl, hb5, hbv, hgot⟩
  have hbw5 := below_next' H4.out.2.2.1 hb5
  have hb05 := below_next' H4.out.2.2.2.1 hb5
  have hT5 := H4.out.2.2.2.2.1.below hb5
  have hU5 := H4.out.2.2.2.2.2.1.below hb5
  have p0 := hT5.cell 0 (by simp)
  have p1 := hT5.cell 1 (by simp)
  have p2 := hT5.cell 2 (by simp)
  have q0 := hU5.cell 0 (by simp)
  have q1 := hU5.cell 1 (by simp)
  have q2 := hU5.cell 2 (by simp)
  have H5 := Lib.hid (And.intro hbw5 (And.intro hb05 (And.intro hT5 (And.intro hU5 (And.intro hbv hgot)))))
  have HP := Lib.hid (And.intro p0 (And.intro p1 (And.intro p2 (And.intro q0 (And.intro q1 q2)))))
  clear hb5 hbw5 hb05 hT5 hU5 hbv hgot y0 y1 y2 z0 z1 z2
  cases b
  · go_wp2_with fail
    go_quiet (fail)
    have hg := grown_drewN w5 nq none
    have hbd : Below w5.heap.size w5 (w5.drewN nq) := ⟨hg.os, hg.tape, hg.output, hg.size, fun k hk => hg.block k hk (by simp)⟩
    have hT6 := H5.out.2.2.1.below hbd
    have p0' := hT6.cell 0 (by simp)
    have p1' := hT6.cell 1 (by simp)
    have p2' := hT6.cell 2 (by simp)
    have H6 := Lib.hid (And.intro (below_next' H5.out.1 hbd) (And.intro (below_next' H5.out.2.1 hbd) hT6))
    clear hg hbd hT6 p0 p1 p2 q0 q1 q2
    generalize w5.drewN nq = w6 at H6 p0' p1' p2' ⊢
    have p0 := p0'
    have p1 := p1'
    have p2 := p2'
    clear p0' p1' p2'
    go_wp2_with fail
    refine (vars_any (ls.length : Int) n _ T w6 (H0.out.1.kept fun _ _ h => cell_below H6.out.2.1 h)).mono ?_
    rintro e w7 ⟨r, rfl, hb7, hv⟩
    cases r
    · have HV := Lib.hid (below_next' H6.out.1 hb7)
      clear hb7 hv p0 p1 p2
      go_wp2_with fail
      refine (hGround _).mono ?_
      rintro e w9 ⟨rfl, hb9⟩
      have HF := Lib.hid (below_next' HV.out hb9)
      clear hb9
      go_wp2_with fail
      go_ret
      exact ⟨rfl, HF.out⟩
    · have hvt := hv rfl
      have hT7 := H6.out.2.2.below hb7
      have f0 := hT7.cell 0 (by simp)
      have f1 := hT7.cell 1 (by simp)
      have f2 := hT7.cell 2 (by simp)
      have H7 := Lib.hid (And.intro (below_next' H6.out.1 hb7) (And.intro (below_next' H6.out.2.1 hb7) (And.intro hvt (And.intro f0 (And.intro f1 f2)))))
      clear hb7 hv hvt hT7 p0 p1 p2 f0 f1 f2
      go_wp2_with fail
      refine region_put Rb (fun t => (kTwo w.heap.size (.slice aa ls.length ca) (.agg #[.int .i64 k0, .int .i64 u0, .slice a0 m0 c0]) w7.heap.size (n + q) (sub ls T) t).holds) (by rfl) (rb_draw w7) (fun w w' => rb_trans w w') rb_refl (fun _ _ h => Below.size h) (fun t w w' v => Kf.mono _ w w' v) 60 10 (by rfl) (by kernel_rfl) (by kernel_rfl) (by kernel_rfl) (by kernel_rfl) [2, 3] (by kernel_rfl) ?_ ?_ ?_
      · intro t ht
        simp only [List.mem_cons, List.not_mem_nil, or_false] at ht
        rcases ht with rfl | rfl <;> rfl
      · refine ⟨front_val rfl rb_refl fun a w' hR hf => ?_, front_val rfl rb_refl fun a w' hR hf => ?_, front_val rfl rb_refl fun a w' hR hf => ?_, front_wpK rfl fun a w' Q hR hf => ?_, front_wpK rfl fun a w' Q hR hf => ?_, front_wpK rfl fun a w' Q hR hf => ?_, front_wpK rfl fun a w' Q hR hf => ?_, front_wpK rfl fun a w' Q hR hf => ?_, front_wpK rfl fun a w' Q hR hf => ?_, front_val rfl rb_refl fun a w' hR hf => ?_, trivial⟩
        · have h1 : a.tmps.getD 3 undef = .pointer (some ⟨w.heap.size, 0, none⟩) := hf 3 (by simp [Op.operands])
          have e0 := cell_below hR H7.out.2.2.2.1
          have e1 := cell_below hR H7.out.2.2.2.2.1
          have e2 := cell_below hR H7.out.2.2.2.2.2
          go_simp
        · have h1 : a.tmps.getD 3 undef = .pointer (some ⟨w.heap.size, 0, none⟩) := hf 3 (by simp [Op.operands])
          have e0 := cell_below hR H7.out.2.2.2.1
          have e1 := cell_below hR H7.out.2.2.2.2.1
          have e2 := cell_below hR H7.out.2.2.2.2.2
          go_simp
        · have h1 : a.tmps.getD 2 undef = .slice aa ls.length ca := hf 2 (by simp [Op.operands])
          go_simp
        · have h1 : a.tmps.getD 50 undef = .agg #[.int .i64 k0, .int .i64 u0, .slice a0 m0 c0] := hf 50 (by simp [Op.operands, Call.operands])
          have h2 : a.tmps.getD 51 undef = .slice aa ls.length ca := hf 51 (by simp [Op.operands, Call.operands])
          have hrun : ∀ ty pos es, Sem.run Try.prog (execOp a.eval ⟨some 52, .call ⟨.value (.func 14), #[.tmp 50, .tmp 51], #[25, 23]⟩, ty, pos, es, none⟩) w' = .ok (.enter 14 #[.agg #[.int .i64 k0, .int .i64 u0, .slice a0 m0 c0], .slice aa ls.length ca]) w' := by intro ty pos es; go_simp
          unfold Oper.wp
          rw [hrun, Oper.upon_enter]
          refine (subst14_any ls q n (.slice aa ls.length ca) _ T w' (H0.out.1.kept fun _ _ h => cell_below hR (cell_below H7.out.2.1 h)) (H0.out.2.2.1.kept fun _ _ h => cell_below hR (cell_below H7.out.2.1 h)) (by have := H4.out.2.2.2.2.2.2; omega) (fun t ht => by have := H3.out.2.2.2.2.2.1.2 t ht; omega)).mono ?_
          rintro e w8 ⟨r, rfl, hb8, hr⟩
          exact ⟨r, rfl, hb8, hr.from hR.size⟩
        · have h1 : a.tmps.getD 49 undef = .agg #[.int .i64 k0, .int .i64 u0, .slice a0 m0 c0] := hf 49 (by simp [Op.operands, Call.operands])
          obtain ⟨k5, u5, a5, m5, c5, h2, hx⟩ : AggTp w7.heap.size (n + q) (sub ls T) w' (a.tmps.getD 52 undef) := hf 52 (by simp [Op.operands, Call.operands])
          have hrun : ∀ ty pos es, Sem.run Try.prog (execOp a.eval ⟨some 53, .call ⟨.value (.func 12), #[.tmp 49, .tmp 52], #[25, 25]⟩, ty, pos, es, none⟩) w' = .ok (.enter 12 #[.agg #[.int .i64 k0, .int .i64 u0, .slice a0 m0 c0], .agg #[.int .i64 k5, .int .i64 u5, .slice a5 m5 c5]]) w' := by intro ty pos es; go_simp
          unfold Oper.wp
          rw [hrun, Oper.upon_enter]
          have hss : size (sub ls T) ≤ 100000 := by
            have h5 := size_sub ls 250 (fun t ht => H3.out.2.2.2.2.2.1.2 t ht) (by omega) T
            have h6 := H4.out.2.2.2.2.2.2
            have h7 : size T * 250 ≤ 40 * 250 := Nat.mul_le_mul_right _ h6
            omega
          refine (matchTop_any n (n + q) _ _ T (sub ls T) w' (H0.out.1.kept fun _ _ h => cell_below hR (cell_below H7.out.2.1 h)) (hx.kept cut_cell) hss).mono ?_
          rintro e w8 ⟨u, b, rfl, hb8, hb9, _⟩
          have hcm := (mt_complete ls (by have := H3.out.2.2.2.2.2.1.1; omega) T [] H7.out.2.2.1 (con_nil ls)).1
          rw [hcm] at hb9
          subst hb9
          exact ⟨_, rfl, hb8, u, rfl⟩
        · obtain ⟨u, h1⟩ : YesV w' (a.tmps.getD 53 undef) := hf 53 (by simp [Op.operands])
          have hrun : ∀ ty pos es, Sem.run Try.prog (execOp a.eval ⟨some 48, .move (.tmp 53), ty, pos, es, none⟩) w' = .ok (.value (.tuple #[u, .bool true])) w' := by intro ty pos es; go_simp
          unfold Oper.wp
          rw [hrun, Oper.upon_value]
          exact ⟨_, rfl, rb_refl _, u, rfl⟩
        · obtain ⟨u, h1⟩ : YesV w' (a.tmps.getD 48 undef) := hf 48 (by simp [Op.operands])
          have hrun : ∀ ty pos es, Sem.run Try.prog (execOp a.eval ⟨some 54, .extract (.tmp 48) 0, ty, pos, es, none⟩) w' = .ok (.value u) w' := by intro ty pos es; go_simp
          unfold Oper.wp
          rw [hrun, Oper.upon_value]
          exact ⟨_, rfl, rb_refl _, trivial⟩
        · obtain ⟨u, h1⟩ : YesV w' (a.tmps.getD 48 undef) := hf 48 (by simp [Op.operands])
          have hrun : ∀ ty pos es, Sem.run Try.prog (execOp a.eval ⟨some 55, .extract (.tmp 48) 1, ty, pos, es, none⟩) w' = .ok (.value (.bool true)) w' := by intro ty pos es; go_simp
          unfold Oper.wp
          rw [hrun, Oper.upon_value]
          exact ⟨_, rfl, rb_refl _, rfl⟩
        · obtain ⟨z, hz⟩ : ∃ z, a.tmps.getD 54 undef = z := ⟨_, rfl⟩
          have hrun : ∀ ty pos es, Sem.run Try.prog (execOp a.eval ⟨some 9, .assign (.tmp 54), ty, pos, es, none⟩) w' = .ok (.value z) w' := by intro ty pos es; go_simp
          unfold Oper.wp
          rw [hrun, Oper.upon_value]
          exact ⟨_, rfl, rb_refl _, trivial⟩
        · have h1 : a.tmps.getD 55 undef = .bool true := hf 55 (by simp [Op.operands])
          go_simp
      · intro u w8 hb8 hf
        have f10 : u 10 = .bool true := hf 9 10 (by decide) rfl
        simp only [putAll, List.drop_succ_cons, List.drop_zero, List.take_succ_cons, List.take_zero, Act.put, List.setIfInBounds_toArray, List.set_cons_succ, List.set_cons_zero]
        rw [f10]
        have HV := Lib.hid (below_next' H7.out.1 hb8)
        clear hf f10 hb8
        go_wp2_with fail
        refine (hGround _).mono ?_
        rintro e w9 ⟨rfl, hb9⟩
        have HF := Lib.hid (below_next' HV.out hb9)
        clear hb9
        go_wp2_with fail
        go_ret
        exact ⟨rfl, HF.out⟩
  · have hMt : mt T U [] = (true, (mt T U []).2) := by
      have h := H5.out.2.2.2.2.1
      rw [h]
    have hsub : sub (got (mt T U []).2) T = U := mt_sound T U [] _ _ hMt (ExtF.refl _)
    have hgs : ∀ t ∈ got (mt T U []).2, size t ≤ 1000 := fun t ht => by
      have hsm := mt_small 250 T U [] (fun i y h => by simp at h) H3.out.2.2.2.2.2.2.2
      unfold got at ht
      obtain ⟨o, ho, rfl⟩ := List.mem_map.1 ht
      cases o with
      | none => simp [size, sizeL]
      | some y =>
        obtain ⟨j, hj, hjo⟩ := List.getElem_of_mem ho
        have := hsm j y (by rw [List.getElem?_eq_getElem hj, hjo])
        show size y ≤ 1000
        omega
    have hv5 : TpsC w5.cell? (n + m + 1) v (got (mt T U []).2) := (H5.out.2.2.2.2.2 rfl).kept cut_cell
    have HG := Lib.hid (And.intro hsub (And.intro hgs hv5))
    clear hMt hsub hgs hv5 p0 p1 p2 q0 q1 q2
    go_wp2_with fail
    refine region_put Rb (fun t => (kOne w.heap.size (w.heap.size + 1) v (.agg #[.int .i64 k0, .int .i64 u0, .slice a0 m0 c0]) (.agg #[.int .i64 k1, .int .i64 u1, .slice a1 m1 c1]) w5.heap.size (n + (n + m + 1)) U t).holds) (by rfl) (rb_draw w5) (fun w w' => rb_trans w w') rb_refl (fun _ _ h => Below.size h) (fun t w w' v => Kf.mono _ w w' v) 60 9 (by rfl) (by kernel_rfl) (by kernel_rfl) (by kernel_rfl) (by kernel_rfl) [3, 4, 7, 8] (by kernel_rfl) ?_ ?_ ?_
    · intro t ht
      simp only [List.mem_cons, List.not_mem_nil, or_false] at ht
      rcases ht with rfl | rfl | rfl | rfl <;> rfl
    · refine ⟨front_val rfl rb_refl fun a w' hR hf => ?_, front_val rfl rb_refl fun a w' hR hf => ?_, front_valG rfl rfl rfl rb_refl fun a w' hR hf => ?_, front_valG rfl rfl rfl rb_refl fun a w' hR hf => ?_, front_wpG rfl rfl rfl fun a w' Q hR hf => ?_, front_valG rfl rfl rfl rb_refl fun a w' hR hf => ?_, front_wpG rfl rfl rfl fun a w' Q hR hf => ?_, front_valG rfl rfl rfl rb_refl fun a w' hR hf => ?_, front_val rfl rb_refl fun a w' hR hf => ?_, trivial⟩
      · have h1 : a.tmps.getD 8 undef = .bool true := hf 8 (by simp [Op.operands])
        go_simp
      · have h1 : a.tmps.getD 35 undef = .bool true := hf 35 (by simp [Op.operands])
        go_simp
      · have h1 : a.tmps.getD 3 undef = .pointer (some ⟨w.heap.size, 0, none⟩) := hf 3 (by simp [Op.operands])
        have e0 := cell_below hR HP.out.1
        have e1 := cell_below hR HP.out.2.1
        have e2 := cell_below hR HP.out.2.2.1
        go_simp
      · have h1 : a.tmps.getD 7 undef = v := hf 7 (by simp [Op.operands])
        go_simp
      · have h1 : a.tmps.getD 37 undef = .agg #[.int .i64 k0, .int .i64 u0, .slice a0 m0 c0] := hf 37 (by simp [Op.operands, Call.operands])
        have h2 : a.tmps.getD 38 undef = v := hf 38 (by simp [Op.operands, Call.operands])
        have hrun : ∀ ty pos es g, Sem.run Try.prog (execOp a.eval ⟨some 39, .call ⟨.value (.func 14), #[.tmp 37, .tmp 38], #[25, 23]⟩, ty, pos, es, g⟩) w' = .ok (.enter 14 #[.agg #[.int .i64 k0, .int .i64 u0, .slice a0 m0 c0], v]) w' := by intro ty pos es g; go_simp
        unfold Oper.wp
        rw [hrun, Oper.upon_enter]
        refine (subst14_any (got (mt T U []).2) (n + m + 1) n v _ T w' (H0.out.1.kept fun _ _ h => cell_below hR (cell_below H5.out.2.1 h)) (HG.out.2.2.kept fun _ _ h => cell_below hR h) (by have := H4.out.2.2.2.2.2.2; omega) HG.out.2.1).mono ?_
        rintro e w8 ⟨r, rfl, hb8, hr⟩
        rw [HG.out.1] at hr
        exact ⟨r, rfl, hb8, hr.from hR.size⟩
      · have h1 : a.tmps.getD 4 undef = .pointer (some ⟨w.heap.size + 1, 0, none⟩) := hf 4 (by simp [Op.operands])
        have e0 := cell_below hR HP.out.2.2.2.1
        have e1 := cell_below hR HP.out.2.2.2.2.1
        have e2 := cell_below hR HP.out.2.2.2.2.2
        go_simp
      · obtain ⟨k5, u5, a5, m5, c5, h1, hx⟩ : AggTp w5.heap.size (n + (n + m + 1)) U w' (a.tmps.getD 39 undef) := hf 39 (by simp [Op.operands, Call.operands])
        have h2 : a.tmps.getD 40 undef = .agg #[.int .i64 k1, .int .i64 u1, .slice a1 m1 c1] := hf 40 (by simp [Op.operands, Call.operands])
        have hrun : ∀ ty pos es g, Sem.run Try.prog (execOp a.eval ⟨some 41, .call ⟨.value (.func 13), #[.tmp 39, .tmp 40], #[25, 25]⟩, ty, pos, es, g⟩) w' = .ok (.enter 13 #[.agg #[.int .i64 k5, .int .i64 u5, .slice a5 m5 c5], .agg #[.int .i64 k1, .int .i64 u1, .slice a1 m1 c1]]) w' := by intro ty pos es g; go_simp
        unfold Oper.wp
        rw [hrun, Oper.upon_enter]
        refine (same_all (n + (n + m + 1) + m) _ _ U U w' ((hx.kept cut_cell).le (by omega)) ((H0.out.2.1.kept fun _ _ h => cell_below hR (cell_below H5.out.2.1 h)).le (by omega))).mono ?_
        rintro e w8 ⟨rfl, hb8⟩
        rw [tpEq_true.2 rfl]
        exact ⟨_, rfl, hb8, rfl⟩
      · have h1 : a.tmps.getD 41 undef = .bool true := hf 41 (by simp [Op.operands])
        go_simp
      · have h1 : a.tmps.getD 36 undef = .bool true := hf 36 (by simp [Op.operands])
        have h2 : a.tmps.getD 42 undef = .bool false := hf 42 (by simp [Op.operands])
        go_simp
    · intro u w6 hbd hf
      have f43 : u 43 = .bool false := hf 8 43 (by decide) rfl
      simp only [putAll, List.drop_succ_cons, List.drop_zero, List.take_succ_cons, List.take_zero, Act.put, List.setIfInBounds_toArray, List.set_cons_succ, List.set_cons_zero]
      rw [f43]
      have hT6 := H5.out.2.2.1.below hbd
      have p0 := hT6.cell 0 (by simp)
      have p1 := hT6.cell 1 (by simp)
      have p2 := hT6.cell 2 (by simp)
      have H6 := Lib.hid (And.intro (below_next' H5.out.1 hbd) (And.intro (below_next' H5.out.2.1 hbd) hT6))
      clear hbd hT6 hf f43
      go_wp2_with fail
      refine (vars_any (ls.length : Int) n _ T w6 (H0.out.1.kept fun _ _ h => cell_below H6.out.2.1 h)).mono ?_
      rintro e w7 ⟨r, rfl, hb7, hv⟩
      cases r
      · have HV := Lib.hid (below_next' H6.out.1 hb7)
        clear hb7 hv p0 p1 p2
        go_wp2_with fail
        refine (hGround _).mono ?_
        rintro e w9 ⟨rfl, hb9⟩
        have HF := Lib.hid (below_next' HV.out hb9)
        clear hb9
        go_wp2_with fail
        go_ret
        exact ⟨rfl, HF.out⟩
      · have hvt := hv rfl
        have hT7 := H6.out.2.2.below hb7
        have f0 := hT7.cell 0 (by simp)
        have f1 := hT7.cell 1 (by simp)
        have f2 := hT7.cell 2 (by simp)
        have H7 := Lib.hid (And.intro (below_next' H6.out.1 hb7) (And.intro (below_next' H6.out.2.1 hb7) (And.intro hvt (And.intro f0 (And.intro f1 f2)))))
        clear hb7 hv hvt hT7 p0 p1 p2 f0 f1 f2
        go_wp2_with fail
        refine region_put Rb (fun t => (kTwo w.heap.size (.slice aa ls.length ca) (.agg #[.int .i64 k0, .int .i64 u0, .slice a0 m0 c0]) w7.heap.size (n + q) (sub ls T) t).holds) (by rfl) (rb_draw w7) (fun w w' => rb_trans w w') rb_refl (fun _ _ h => Below.size h) (fun t w w' v => Kf.mono _ w w' v) 60 10 (by rfl) (by kernel_rfl) (by kernel_rfl) (by kernel_rfl) (by kernel_rfl) [2, 3] (by kernel_rfl) ?_ ?_ ?_
        · intro t ht
          simp only [List.mem_cons, List.not_mem_nil, or_false] at ht
          rcases ht with rfl | rfl <;> rfl
        · refine ⟨front_val rfl rb_refl fun a w' hR hf => ?_, front_val rfl rb_refl fun a w' hR hf => ?_, front_val rfl rb_refl fun a w' hR hf => ?_, front_wpK rfl fun a w' Q hR hf => ?_, front_wpK rfl fun a w' Q hR hf => ?_, front_wpK rfl fun a w' Q hR hf => ?_, front_wpK rfl fun a w' Q hR hf => ?_, front_wpK rfl fun a w' Q hR hf => ?_, front_wpK rfl fun a w' Q hR hf => ?_, front_val rfl rb_refl fun a w' hR hf => ?_, trivial⟩
          · have h1 : a.tmps.getD 3 undef = .pointer (some ⟨w.heap.size, 0, none⟩) := hf 3 (by simp [Op.operands])
            have e0 := cell_below hR H7.out.2.2.2.1
            have e1 := cell_below hR H7.out.2.2.2.2.1
            have e2 := cell_below hR H7.out.2.2.2.2.2
            go_simp
          · have h1 : a.tmps.getD 3 undef = .pointer (some ⟨w.heap.size, 0, none⟩) := hf 3 (by simp [Op.operands])
            have e0 := cell_below hR H7.out.2.2.2.1
            have e1 := cell_below hR H7.out.2.2.2.2.1
            have e2 := cell_below hR H7.out.2.2.2.2.2
            go_simp
          · have h1 : a.tmps.getD 2 undef = .slice aa ls.length ca := hf 2 (by simp [Op.operands])
            go_simp
          · have h1 : a.tmps.getD 50 undef = .agg #[.int .i64 k0, .int .i64 u0, .slice a0 m0 c0] := hf 50 (by simp [Op.operands, Call.operands])
            have h2 : a.tmps.getD 51 undef = .slice aa ls.length ca := hf 51 (by simp [Op.operands, Call.operands])
            have hrun : ∀ ty pos es, Sem.run Try.prog (execOp a.eval ⟨some 52, .call ⟨.value (.func 14), #[.tmp 50, .tmp 51], #[25, 23]⟩, ty, pos, es, none⟩) w' = .ok (.enter 14 #[.agg #[.int .i64 k0, .int .i64 u0, .slice a0 m0 c0], .slice aa ls.length ca]) w' := by intro ty pos es; go_simp
            unfold Oper.wp
            rw [hrun, Oper.upon_enter]
            refine (subst14_any ls q n (.slice aa ls.length ca) _ T w' (H0.out.1.kept fun _ _ h => cell_below hR (cell_below H7.out.2.1 h)) (H0.out.2.2.1.kept fun _ _ h => cell_below hR (cell_below H7.out.2.1 h)) (by have := H4.out.2.2.2.2.2.2; omega) (fun t ht => by have := H3.out.2.2.2.2.2.1.2 t ht; omega)).mono ?_
            rintro e w8 ⟨r, rfl, hb8, hr⟩
            exact ⟨r, rfl, hb8, hr.from hR.size⟩
          · have h1 : a.tmps.getD 49 undef = .agg #[.int .i64 k0, .int .i64 u0, .slice a0 m0 c0] := hf 49 (by simp [Op.operands, Call.operands])
            obtain ⟨k5, u5, a5, m5, c5, h2, hx⟩ : AggTp w7.heap.size (n + q) (sub ls T) w' (a.tmps.getD 52 undef) := hf 52 (by simp [Op.operands, Call.operands])
            have hrun : ∀ ty pos es, Sem.run Try.prog (execOp a.eval ⟨some 53, .call ⟨.value (.func 12), #[.tmp 49, .tmp 52], #[25, 25]⟩, ty, pos, es, none⟩) w' = .ok (.enter 12 #[.agg #[.int .i64 k0, .int .i64 u0, .slice a0 m0 c0], .agg #[.int .i64 k5, .int .i64 u5, .slice a5 m5 c5]]) w' := by intro ty pos es; go_simp
            unfold Oper.wp
            rw [hrun, Oper.upon_enter]
            have hss : size (sub ls T) ≤ 100000 := by
              have h5 := size_sub ls 250 (fun t ht => H3.out.2.2.2.2.2.1.2 t ht) (by omega) T
              have h6 := H4.out.2.2.2.2.2.2
              have h7 : size T * 250 ≤ 40 * 250 := Nat.mul_le_mul_right _ h6
              omega
            refine (matchTop_any n (n + q) _ _ T (sub ls T) w' (H0.out.1.kept fun _ _ h => cell_below hR (cell_below H7.out.2.1 h)) (hx.kept cut_cell) hss).mono ?_
            rintro e w8 ⟨u, b, rfl, hb8, hb9, _⟩
            have hcm := (mt_complete ls (by have := H3.out.2.2.2.2.2.1.1; omega) T [] H7.out.2.2.1 (con_nil ls)).1
            rw [hcm] at hb9
            subst hb9
            exact ⟨_, rfl, hb8, u, rfl⟩
          · obtain ⟨u, h1⟩ : YesV w' (a.tmps.getD 53 undef) := hf 53 (by simp [Op.operands])
            have hrun : ∀ ty pos es, Sem.run Try.prog (execOp a.eval ⟨some 48, .move (.tmp 53), ty, pos, es, none⟩) w' = .ok (.value (.tuple #[u, .bool true])) w' := by intro ty pos es; go_simp
            unfold Oper.wp
            rw [hrun, Oper.upon_value]
            exact ⟨_, rfl, rb_refl _, u, rfl⟩
          · obtain ⟨u, h1⟩ : YesV w' (a.tmps.getD 48 undef) := hf 48 (by simp [Op.operands])
            have hrun : ∀ ty pos es, Sem.run Try.prog (execOp a.eval ⟨some 54, .extract (.tmp 48) 0, ty, pos, es, none⟩) w' = .ok (.value u) w' := by intro ty pos es; go_simp
            unfold Oper.wp
            rw [hrun, Oper.upon_value]
            exact ⟨_, rfl, rb_refl _, trivial⟩
          · obtain ⟨u, h1⟩ : YesV w' (a.tmps.getD 48 undef) := hf 48 (by simp [Op.operands])
            have hrun : ∀ ty pos es, Sem.run Try.prog (execOp a.eval ⟨some 55, .extract (.tmp 48) 1, ty, pos, es, none⟩) w' = .ok (.value (.bool true)) w' := by intro ty pos es; go_simp
            unfold Oper.wp
            rw [hrun, Oper.upon_value]
            exact ⟨_, rfl, rb_refl _, rfl⟩
          · obtain ⟨z, hz⟩ : ∃ z, a.tmps.getD 54 undef = z := ⟨_, rfl⟩
            have hrun : ∀ ty pos es, Sem.run Try.prog (execOp a.eval ⟨some 9, .assign (.tmp 54), ty, pos, es, none⟩) w' = .ok (.value z) w' := by intro ty pos es; go_simp
            unfold Oper.wp
            rw [hrun, Oper.upon_value]
            exact ⟨_, rfl, rb_refl _, trivial⟩
          · have h1 : a.tmps.getD 55 undef = .bool true := hf 55 (by simp [Op.operands])
            go_simp
        · intro u w8 hb8 hf
          have f10 : u 10 = .bool true := hf 9 10 (by decide) rfl
          simp only [putAll, List.drop_succ_cons, List.drop_zero, List.take_succ_cons, List.take_zero, Act.put, List.setIfInBounds_toArray, List.set_cons_succ, List.set_cons_zero]
          rw [f10]
          have HV := Lib.hid (below_next' H7.out.1 hb8)
          clear hf f10 hb8
          go_wp2_with fail
          refine (hGround _).mono ?_
          rintro e w9 ⟨rfl, hb9⟩
          have HF := Lib.hid (below_next' HV.out hb9)
          clear hb9
          go_wp2_with fail
          go_ret
          exact ⟨rfl, HF.out⟩
end Go.Proofs.Ytkobfnpkebgmjaa
