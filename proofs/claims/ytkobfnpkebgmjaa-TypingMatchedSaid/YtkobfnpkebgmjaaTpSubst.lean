/-
  The walk of amortcostref6.Subst. Condition: at most 1000000 nodes each.
-/
import Derived.Test.YtkobfnpkebgmjaaTpCopied
namespace Go.Proofs.Ytkobfnpkebgmjaa
open Go.RowKit Go.Deep

/-- What the slots of 'out.Args = append(out.Args, Subst(t.Args[i], args))' hold. -/
def kSub (va : Value) (g1 g3 : Nat) (i : Int) (v0 vs : Value) (pe : Addr) (t0 t1 t2 : Value) (B n : Nat) (x : Tp) : Tmp → Kf Rb
  | 1 => .val va
  | 2 => .val (.pointer (some ⟨g1, 0, none⟩))
  | 5 => .val (.pointer (some ⟨g3, 0, none⟩))
  | 6 => .val (.int .i64 i)
  | 40 => .val (.pointer (some ⟨g3, 2, none⟩))
  | 41 => .val v0
  | 42 => .val (.pointer (some ⟨g1, 2, none⟩))
  | 43 => .val vs
  | 44 => .val (.int .i64 i)
  | 45 => .val (.pointer (some pe))
  | 46 => .val (.agg #[t0, t1, t2])
  | 47 => .val va
  | 48 => .fact (AggTp B n x) AggTp.mono
  | 49 => .fact (SlTp B n x) SlTp.mono
  | _ => .any

theorem AggTp.le {B n n' : Nat} {x : Tp} {w : World} {v : Value} (h : AggTp B n x w v) (hn : n ≤ n') : AggTp B n' x w v := by
  obtain ⟨k, u, a, m, c, e, ht⟩ := h
  exact ⟨k, u, a, m, c, e, ht.le hn⟩
theorem subL_append (ls : List Tp) : ∀ (a : List Tp) (x : Tp), subL ls (a ++ [x]) = subL ls a ++ [sub ls x]
  | [], x => rfl
  | y :: ys, x => by rw [List.cons_append, subL, subL, subL_append ls ys x]; rfl

set_option maxRecDepth 100000 in
set_option maxHeartbeats 16000000 in
theorem subst_any (ls : List Tp) (m : Nat) (va : Value) (hsa : ∀ t ∈ ls, size t ≤ 1000000) : ∀ (n : Nat) (cs : List Value) (T : Tp) (w : World), TpC w.cell? n cs T → TpsC w.cell? m va ls → size T ≤ 1000000 →
    Calls Try.prog 19 #[.agg cs.toArray, va] w (fun e w' => ∃ r, e = .returned r ∧ Below w.heap.size w w' ∧ AggTp w.heap.size (n + m) (sub ls T) w' r) := by
  intro n
  induction n with
  | zero => intro cs T w h; exact h.elim
  | succ n ih =>
    intro cs T w hT hS0 hS
    obtain ⟨k, s, us⟩ := T
    obtain ⟨v, rfl, hk, hs, a, cap, rfl, hcap, hcap2, hrow⟩ := hT
    have hS0' := hS0
    obtain ⟨aa, ca, rfl, hca, hca2, hrowA⟩ := hS0
    rw [size] at hS
    have hlen := length_sizeL us
    have hP : BoxV ((w.alloc (.cells #[.int .i64 k, .int .i64 s, .slice a us.length cap] 25)).alloc (.cells #[.int .i64 0, .int .i64 0, .slice none 0 0] 25)) w.heap.size w.heap.size 25 [.int .i64 k, .int .i64 s, .slice a us.length cap] :=
      (BoxV.new w w.heap.size 25 (Nat.le_refl _) _).alloc _
    have hQ : BoxV ((w.alloc (.cells #[.int .i64 k, .int .i64 s, .slice a us.length cap] 25)).alloc (.cells #[.int .i64 0, .int .i64 0, .slice none 0 0] 25)) w.heap.size (w.heap.size + 1) 25 [.int .i64 0, .int .i64 0, .slice none 0 0] := by
      have := BoxV.new (w.alloc (.cells #[.int .i64 k, .int .i64 s, .slice a us.length cap] 25)) w.heap.size 25 (by simp) [.int .i64 0, .int .i64 0, .slice none 0 0]
      simpa using this
    have hb : Below w.heap.size w ((w.alloc (.cells #[.int .i64 k, .int .i64 s, .slice a us.length cap] 25)).alloc (.cells #[.int .i64 0, .int .i64 0, .slice none 0 0] 25)) := (below_alloc1 w _).alloc (by simp) _
    have hO : BoxV (((w.alloc (.cells #[.int .i64 k, .int .i64 s, .slice a us.length cap] 25)).alloc (.cells #[.int .i64 0, .int .i64 0, .slice none 0 0] 25)).alloc (.cells #[.int .i64 k, .int .i64 s, .slice none 0 0] 25)) w.heap.size (w.heap.size + 1 + 1) 25 [.int .i64 k, .int .i64 s, .slice none 0 0] := by
      have := (BoxV.new ((w.alloc (.cells #[.int .i64 k, .int .i64 s, .slice a us.length cap] 25)).alloc (.cells #[.int .i64 0, .int .i64 0, .slice none 0 0] 25)) w.heap.size 25 (by simp; omega) [.int .i64 k, .int .i64 s, .slice none 0 0])
      simpa using this
    have hb3 : Below w.heap.size w (((w.alloc (.cells #[.int .i64 k, .int .i64 s, .slice a us.length cap] 25)).alloc (.cells #[.int .i64 0, .int .i64 0, .slice none 0 0] 25)).alloc (.cells #[.int .i64 k, .int .i64 s, .slice none 0 0] 25)) := hb.alloc (by simp; omega) _
    by_cases hhit : k = 4 ∧ 0 ≤ s ∧ s < (ls.length : Int)
    · obtain ⟨rfl, hs0, hs1⟩ := hhit
      obtain ⟨j, rfl⟩ : ∃ j : Nat, s = (j : Int) := ⟨s.toNat, by omega⟩
      have hj : j < ls.length := by omega
      have hval : sub ls (.mk 4 j us) = ls[j] := by
        rw [sub]
        unfold hit
        rw [if_pos ⟨rfl, by omega⟩, Int.toNat_natCast, List.getElem?_eq_getElem hj]
        rfl
      rw [hval]
      obtain ⟨b, o, cs', rfl, hcl, hcs, hTj⟩ := hrowA j hj
      match cs', hcl with
      | [t0, t1, t2], _ =>
        have i0 : w.cell? ⟨b, o + j * 3, none⟩ = some t0 := hcs 0 (by omega)
        have i1 : w.cell? ⟨b, o + j * 3 + 1, none⟩ = some t1 := hcs 1 (by omega)
        have i2 : w.cell? ⟨b, o + j * 3 + 2, none⟩ = some t2 := hcs 2 (by omega)
        have j0 := cell_below hb i0
        have j1 := cell_below hb i1
        have j2 := cell_below hb i2
        have y0 := hP.cell 0 (by simp)
        have y1 := hP.cell 1 (by simp)
        have hsz := hsa _ (List.getElem_mem hj)
        have HA := Lib.hid (And.intro hTj (And.intro hsz (And.intro hb hQ)))
        clear ih hrow hrowA hS0' hP hQ hO hb3 hTj hcs hsz hval i0 i1 i2 hsa hb
        go_enter Try.func19, Try.ntmps19
        go_wp2_with fail
        refine (copied_any m [t0, t1, t2] ls[j] _ (HA.out.1.kept fun _ _ h => cell_below HA.out.2.2.1 h) HA.out.2.1).mono ?_
        rintro e w6 ⟨r, rfl, hb6, k1, u1, a1, m1, c1, rfl, hx⟩
        have hb7 := below_next' HA.out.2.2.1 hb6
        have hQ6 := HA.out.2.2.2.below hb6
        have q0 := hQ6.cell 0 (by simp)
        have q1 := hQ6.cell 1 (by simp)
        have q2 := hQ6.cell 2 (by simp)
        have p0 := hQ6.frozen 0
        have p1 := hQ6.frozen 1
        have p2 := hQ6.frozen 2
        have hx6 := hx.kept (cut_le (T := fun b => w.heap.size ≤ b ∧ b ≠ w.heap.size + 1) fun b hb => by
          simp only [World.size_alloc] at hb
          omega)
        have HF := Lib.hid (And.intro hb7 (And.intro hQ6 hx6))
        clear hb6 hx hb7 hQ6 hx6 j0 j1 j2 y0 y1
        go_wp2_with fail
        have hG := grown_trans (grown_trans (grown_set w6 (w.heap.size + 1) 0 (.int .i64 k1)) (grown_set _ (w.heap.size + 1) 1 (.int .i64 u1))) (grown_set _ (w.heap.size + 1) 2 (.slice a1 m1 c1))
        have hQ9 : BoxV _ w.heap.size (w.heap.size + 1) 25 [.int .i64 k1, .int .i64 u1, .slice a1 m1 c1] := boxV_setT (boxV_setT (boxV_setT HF.out.2.1 0 (.int .i64 k1)) 1 (.int .i64 u1)) 2 (.slice a1 m1 c1)
        have hx9 := HF.out.2.2.kept (cut_grown hG (T := fun b => w.heap.size ≤ b) fun b hb hs => ⟨hs.1, fun e => hs.2 (Option.some.inj e)⟩)
        have hb9 := HF.out.1.grown hG HF.out.1.size (fun q hq => by cases hq; omega)
        have HE := Lib.hid (And.intro hx9 hb9)
        have hh := hQ9.heap
        clear q0 q1 q2 p0 p1 p2 hG hQ9 hx9 hb9
        generalize ((w6.setCell ⟨w.heap.size + 1, 0, none⟩ (.int .i64 k1)).setCell ⟨w.heap.size + 1, 1, none⟩ (.int .i64 u1)).setCell ⟨w.heap.size + 1, 2, none⟩ (.slice a1 m1 c1) = W9 at HE hh ⊢
        exact bodyPost_ret (v := .agg #[.int .i64 k1, .int .i64 u1, .slice a1 m1 c1]) (results_cell_row (P := Try.prog) Try.results19 _ _ (w.heap.size + 1) 25 #[.int .i64 k1, .int .i64 u1, .slice a1 m1 c1] (0, 0) _ rfl hh Try.underlying25 rfl (by kernel_rfl)) rfl ⟨_, rfl, HE.out.2, _, _, _, _, _, rfl, HE.out.1.le (by omega)⟩
    have hval : sub ls (.mk k s us) = .mk k s (subL ls us) := by
      rw [sub]
      unfold hit
      by_cases h1 : k = 4 ∧ 0 ≤ s
      · rw [if_pos h1, List.getElem?_eq_none (by omega)]
        rfl
      · rw [if_neg h1]
        rfl
    rw [hval]
    have H0 := Lib.hid (And.intro (hP.alloc (.cells #[.int .i64 k, .int .i64 s, .slice none 0 0] 25)) (And.intro (hQ.alloc (.cells #[.int .i64 k, .int .i64 s, .slice none 0 0] 25)) (And.intro hO hb3)))
    have HA := Lib.hid (And.intro ih (And.intro hrow (And.intro hS hS0')))
    clear ih hrow hP hQ hO hb hb3 hrowA hS0' hsa
    have hways : (k == 4) = false ∨ ((k == 4) = true ∧ s < 0) ∨ ((k == 4) = true ∧ 0 ≤ s ∧ (ls.length : Int) ≤ s) := by
      by_cases h4 : k = 4
      · by_cases h0 : s < 0
        · exact .inr (.inl ⟨by simpa using h4, h0⟩)
        · exact .inr (.inr ⟨by simpa using h4, by omega, by omega⟩)
      · exact .inl (by simpa using h4)
    clear hhit hval
    rcases hways with h4 | ⟨h4, h0⟩ | ⟨h4, h0, h1⟩
    all_goals
      go_enter Try.func19, Try.ntmps19
      go_wp2_with fail
      generalize (((w.alloc (.cells #[.int .i64 k, .int .i64 s, .slice a us.length cap] 25)).alloc (.cells #[.int .i64 0, .int .i64 0, .slice none 0 0] 25)).alloc (.cells #[.int .i64 k, .int .i64 s, .slice none 0 0] 25)) = W1 at H0 ⊢
      go_loopw [6] (fun x wr => ∃ (i : Nat) (v0 : Value), i ≤ us.length ∧ x = .int .i64 i ∧ Below w.heap.size w wr ∧ BoxV wr w.heap.size w.heap.size 25 [.int .i64 k, .int .i64 s, .slice a us.length cap] ∧ BoxV wr w.heap.size (w.heap.size + 1) 25 [.int .i64 0, .int .i64 0, .slice none 0 0] ∧
          BoxV wr w.heap.size (w.heap.size + 1 + 1) 25 [.int .i64 k, .int .i64 s, v0] ∧ TpOwn wr (w.heap.size + 3) (n + m) v0 (subL ls (us.take i))) (fun x _ => us.length - (intOf x).toNat)
      case atStart => exact ⟨0, .slice none 0 0, Nat.zero_le _, rfl, H0.out.2.2.2, H0.out.1, H0.out.2.1, H0.out.2.2.1, by rw [List.take_zero, subL]; exact TpOwn.nil _ _ _⟩
      case round =>
        obtain ⟨i, v0, hi, rfl, hb, hP, hQ, hO, hT⟩ := hrel
        have d2 := hP.cell 2 (by simp)
        have hl0 : (subL ls (us.take i)).length = i := by rw [subL_length, List.length_take]; omega
        obtain ⟨a0, c0, rfl, hc0, hc0'⟩ := hT.shape
        rw [hl0] at hT hO
        clear hl0 hc0 hc0'
        by_cases hlt : i < us.length
        · have hii : (i : Int) < (us.length : Int) := by omega
          obtain ⟨b, o, cs', rfl, hcl, hcs, hTi⟩ := HA.out.2.1 i hlt
          match cs', hcl with
          | [t0, t1, t2], _ =>
            have i0 : wr.cell? ⟨b, o + i * 3, none⟩ = some t0 := cell_below hb (hcs 0 (by omega))
            have i1 : wr.cell? ⟨b, o + i * 3 + 1, none⟩ = some t1 := cell_below hb (hcs 1 (by omega))
            have i2 : wr.cell? ⟨b, o + i * 3 + 2, none⟩ = some t2 := cell_below hb (hcs 2 (by omega))
            have e2 := hO.cell 2 (by simp)
            have hsz : size us[i] ≤ 1000000 := by have := size_mem (List.getElem_mem hlt); have := HA.out.2.2.1; omega
            have hTi' : TpC wr.cell? n [t0, t1, t2] us[i] := hTi.kept fun _ _ h => cell_below hb h
            have HR := Lib.hid (And.intro hb (And.intro hP (And.intro hQ (And.intro hO (And.intro hT (And.intro hTi' (And.intro hsz (And.intro i0 (And.intro i1 (And.intro i2 (And.intro d2 e2)))))))))))
            clear hb hP hQ hO hT hTi hTi' hcs hsz i0 i1 i2 e2
            go_wp2_with fail
            refine region_put Rb (fun t => (kSub (.slice aa ls.length ca) w.heap.size (w.heap.size + 1 + 1) i (.slice a0 i c0) (.slice (some ⟨b, o, none⟩) us.length cap) ⟨b, o + i * 3, none⟩ t0 t1 t2 wr.heap.size (n + m) (sub ls us[i]) t).holds) (by rfl) (rb_draw wr) (fun w w' => rb_trans w w') rb_refl (fun _ _ h => Below.size h) (fun t w w' v => Kf.mono _ w w' v) 53 10 (by rfl) (by kernel_rfl) (by kernel_rfl) (by kernel_rfl) (by kernel_rfl) [1, 2, 5, 6] (by kernel_rfl) ?_ ?_ ?_
            · intro t ht
              simp only [List.mem_cons, List.not_mem_nil, or_false] at ht
              rcases ht with rfl | rfl | rfl | rfl <;> rfl
            · refine ⟨front_val rfl rb_refl fun a w' hR hf => ?_, front_val rfl rb_refl fun a w' hR hf => ?_, front_val rfl rb_refl fun a w' hR hf => ?_, front_val rfl rb_refl fun a w' hR hf => ?_, front_val rfl rb_refl fun a w' hR hf => ?_, front_val rfl rb_refl fun a w' hR hf => ?_, front_val rfl rb_refl fun a w' hR hf => ?_, front_val rfl rb_refl fun a w' hR hf => ?_, front_wp rfl fun a w' Q hR hf => ?_, front_wp rfl fun a w' Q hR hf => ?_, trivial⟩
              · have h1 : a.tmps.getD 5 undef = _ := hf 5 (by simp [Op.operands])
                go_simp
              · have h1 : a.tmps.getD 40 undef = _ := hf 40 (by simp [Op.operands])
                have c1 := cell_below hR HR.out.2.2.2.2.2.2.2.2.2.2.2
                go_simp
              · have h1 : a.tmps.getD 2 undef = _ := hf 2 (by simp [Op.operands])
                go_simp
              · have h1 : a.tmps.getD 42 undef = _ := hf 42 (by simp [Op.operands])
                have c1 := cell_below hR HR.out.2.2.2.2.2.2.2.2.2.2.1
                go_simp
              · have h1 : a.tmps.getD 6 undef = _ := hf 6 (by simp [Op.operands])
                go_simp
              · have h1 : a.tmps.getD 43 undef = _ := hf 43 (by simp [Op.operands])
                have h2 : a.tmps.getD 44 undef = _ := hf 44 (by simp [Op.operands])
                go_simp
              · have h1 : a.tmps.getD 45 undef = _ := hf 45 (by simp [Op.operands])
                have c0 := cell_below hR HR.out.2.2.2.2.2.2.2.1
                have c1 := cell_below hR HR.out.2.2.2.2.2.2.2.2.1
                have c2 := cell_below hR HR.out.2.2.2.2.2.2.2.2.2.1
                go_simp
              · have h1 : a.tmps.getD 1 undef = _ := hf 1 (by simp [Op.operands])
                go_simp
              · have h1 : a.tmps.getD 46 undef = .agg #[t0, t1, t2] := hf 46 (by simp [Op.operands, Call.operands])
                have h2 : a.tmps.getD 47 undef = .slice aa ls.length ca := hf 47 (by simp [Op.operands, Call.operands])
                have hrun : Sem.run Try.prog (execOp a.eval ⟨some 48, .call ⟨.value (.func 19), #[.tmp 46, .tmp 47], #[25, 23]⟩, 25, "typing.go:458", #[⟨6, .data⟩, ⟨7, .data⟩], none⟩) w' = .ok (.enter 19 #[.agg #[t0, t1, t2], .slice aa ls.length ca]) w' := by go_simp
                unfold Oper.wp
                rw [hrun, Oper.upon_enter]
                refine (HA.out.1 [t0, t1, t2] us[i] w' (HR.out.2.2.2.2.2.1.kept fun _ _ h => cell_below hR h) (HA.out.2.2.2.kept fun _ _ h => cell_below hR (cell_below HR.out.1 h)) HR.out.2.2.2.2.2.2.1).mono ?_
                rintro e w6 ⟨r, rfl, hb6, hr⟩
                exact ⟨r, rfl, hb6, hr.from hR.size⟩
              · obtain ⟨k1, u1, a1, m1, c1, h1, hx⟩ : AggTp wr.heap.size (n + m) (sub ls us[i]) w' (a.tmps.getD 48 undef) := hf 48 (by simp [Op.operands])
                have h2 : a.tmps[48]?.getD undef = .agg #[.int .i64 k1, .int .i64 u1, .slice a1 m1 c1] := by rw [← Array.getD_eq_getD_getElem?]; exact h1
                have hrun : Sem.run Try.prog (execOp a.eval ⟨some 49, .buildSlice 23 1 #[(0, .tmp 48)], 23, "typing.go:458", #[⟨8, .data⟩], none⟩) w' = .ok (.value (.slice (some ⟨w'.heap.size, 0, none⟩) 1 1)) (w'.alloc (.cells #[.int .i64 k1, .int .i64 u1, .slice a1 m1 c1] 25)) := by go_simp
                unfold Oper.wp
                rw [hrun, Oper.upon_value]
                exact ⟨_, rfl, below_alloc1 w' _, SlTp.new w' _ _ _ _ _ _ _ _ _ hx⟩
            · intro u w6 hb6 hf
              have f18 : u 41 = _ := hf 1 41 (by decide) rfl
              obtain ⟨g, k1, u1, a1, m1, c1, f25, hnews, hx⟩ : SlTp _ _ _ w6 (u 49) := hf 9 49 (by decide) rfl
              simp only [putAll, List.drop_succ_cons, List.drop_zero, List.take_succ_cons, List.take_zero, Act.put, List.setIfInBounds_toArray, List.set_cons_succ, List.set_cons_zero]
              rw [f18, f25]
              clear hf f18 f25
              have hT6 := HR.out.2.2.2.2.1.below hb6
              have hlt6 := own_len HR.out.2.2.2.2.1
              have hx6 : TpC (cut w6 (fun b => w.heap.size + 3 ≤ b ∧ some b ≠ (Value.slice a0 i c0).ownBlock)) (n + m) [.int .i64 k1, .int .i64 u1, .slice a1 m1 c1] (sub ls us[i]) := hx.kept fun _ _ h => cut_le (fun b hb => ⟨by have := (HR.out.2.2.2.1.block).2; omega, fun e => by have := (hlt6 b e.symm).2; omega⟩) _ _ h
              have hO6 := HR.out.2.2.2.1.below hb6
              have hn1 : ∀ j, j < w.heap.size + 3 → some j ≠ (Value.slice a0 i c0).ownBlock := fun j hj e => by have := (hlt6 j e.symm).1; omega
              have H6 := Lib.hid (And.intro hT6 (And.intro hx6 (And.intro hnews (And.intro hO6 (And.intro (HR.out.2.1.below hb6) (And.intro (HR.out.2.2.1.below hb6) (And.intro (below_next' HR.out.1 hb6) (And.intro hlt6 hn1))))))))
              have hB6 : w.heap.size + 3 ≤ w6.heap.size := by have := (HR.out.2.2.2.1.block).2; have := hb6.size; omega
              have hl6 : (subL ls (us.take i)).length ≤ 1000000 := by rw [subL_length, List.length_take]; omega
              have hl7 : (subL ls (us.take i) ++ [sub ls us[i]]).length = i + 1 := by rw [List.length_append, subL_length, List.length_take, List.length_singleton]; omega
              have hl8 := Lib.hid hl7
              clear hl7
              clear hT6 hx6 hnews hO6 hx hlt6 hn1 hb6
              go_wp2_with (at_builtin; refine wpList_append_tp rfl _ _ rfl (w.heap.size + 3) (n + m) _ (subL ls (us.take i)) rfl H6.out.1 ⟨g, 0, none⟩ 1 _ _ _ _ rfl H6.out.2.2.1 H6.out.2.1 hl6 hB6 ?_; intro v7 w7 hT7 hg7 hv7; obtain ⟨a7, c7, hs7, hc7, hc8⟩ := hT7.shape; rw [hl8.out] at hs7; subst hs7; clear hc7 hc8; have hO7 := H6.out.2.2.2.1.kept hg7 (H6.out.2.2.2.2.2.2.2.2 (w.heap.size + 1 + 1) (Nat.lt_succ_self _)); have e7 := hO7.cell 2 (by simp); have f7 := hO7.frozen 2; have H7 := Lib.hid (And.intro hT7 (And.intro hg7 hO7)); clear hT7 hg7 hO7 hv7)
              go_roundw
              case rel =>
                have hG := grown_set w7 (w.heap.size + 1 + 1) 2 (.slice a7 (i + 1) c7)
                have hT8 : TpOwn w7 (w.heap.size + 3) (n + m) (.slice a7 (i + 1) c7) (subL ls (us.take (i + 1))) := by
                  rw [List.take_succ_eq_append_getElem hlt, subL_append]
                  exact H7.out.1
                have hP7 := H6.out.2.2.2.2.1.kept H7.out.2.1 (H6.out.2.2.2.2.2.2.2.2 w.heap.size (by omega))
                have hQ7 := H6.out.2.2.2.2.2.1.kept H7.out.2.1 (H6.out.2.2.2.2.2.2.2.2 (w.heap.size + 1) (by omega))
                have hb7 := H6.out.2.2.2.2.2.2.1.grown H7.out.2.1 H6.out.2.2.2.2.2.2.1.size (fun q hq => by have := (H6.out.2.2.2.2.2.2.2.1 q hq).1; omega)
                exact ⟨i + 1, _, by omega, by go_num, hb7.grown hG hb7.size (fun q hq => by cases hq; omega), hP7.kept hG (by simp; omega), hQ7.kept hG (by simp), boxV_setT H7.out.2.2 2 _, hT8.kept hG (fun q hq => by cases hq; exact .inl (by omega))⟩
              case measure => simp [intOf] <;> omega
        · obtain rfl : i = us.length := by omega
          rw [List.take_length] at hT
          have hO2 := hO.cell 2 (by simp)
          have hO1 := hO.cell 1 (by simp)
          have hO0 := hO.cell 0 (by simp)
          have q0 := hQ.cell 0 (by simp)
          have q1 := hQ.cell 1 (by simp)
          have q2 := hQ.cell 2 (by simp)
          have p0 := hQ.frozen 0
          have p1 := hQ.frozen 1
          have p2 := hQ.frozen 2
          have HF := Lib.hid (And.intro hb (And.intro hP (And.intro hQ (And.intro hO hT))))
          clear hb hP hQ hO hT hlt
          go_wp2_with fail
          have hG1 := grown_set wr (w.heap.size + 1) 0 (.int .i64 k)
          have hG2 := grown_set (wr.setCell ⟨w.heap.size + 1, 0, none⟩ (.int .i64 k)) (w.heap.size + 1) 1 (.int .i64 s)
          have hG3 := grown_set ((wr.setCell ⟨w.heap.size + 1, 0, none⟩ (.int .i64 k)).setCell ⟨w.heap.size + 1, 1, none⟩ (.int .i64 s)) (w.heap.size + 1) 2 (.slice a0 us.length c0)
          have hG := grown_trans (grown_trans hG1 hG2) hG3
          have hQ9 : BoxV _ w.heap.size (w.heap.size + 1) 25 [.int .i64 k, .int .i64 s, .slice a0 us.length c0] := boxV_setT (boxV_setT (boxV_setT HF.out.2.2.1 0 (.int .i64 k)) 1 (.int .i64 s)) 2 (.slice a0 us.length c0)
          have hT9 := HF.out.2.2.2.2.kept hG (fun q hq => by cases hq; exact .inl (by omega))
          have hb9 := HF.out.1.grown hG HF.out.1.size (fun q hq => by cases hq; omega)
          have hR9 : TpC (cut (((wr.setCell ⟨w.heap.size + 1, 0, none⟩ (.int .i64 k)).setCell ⟨w.heap.size + 1, 1, none⟩ (.int .i64 s)).setCell ⟨w.heap.size + 1, 2, none⟩ (.slice a0 us.length c0)) (fun b => w.heap.size ≤ b)) (n + 1 + m) [.int .i64 k, .int .i64 s, .slice a0 us.length c0] (.mk k s (subL ls us)) := by
            rw [show n + 1 + m = n + m + 1 by omega]
            exact ⟨_, rfl, hk, hs, hT9.tps.kept (cut_le fun b h => by omega)⟩
          have HE := Lib.hid (And.intro hR9 hb9)
          have hh := hQ9.heap
          clear hO2 hO1 hO0 q0 q1 q2 p0 p1 p2 hG1 hG2 hG3 hG hQ9 hT9 hb9 hR9
          generalize ((wr.setCell ⟨w.heap.size + 1, 0, none⟩ (.int .i64 k)).setCell ⟨w.heap.size + 1, 1, none⟩ (.int .i64 s)).setCell ⟨w.heap.size + 1, 2, none⟩ (.slice a0 us.length c0) = W9 at HE hh ⊢
          exact bodyPost_ret (v := .agg #[.int .i64 k, .int .i64 s, .slice a0 us.length c0]) (results_cell_row (P := Try.prog) Try.results19 _ _ (w.heap.size + 1) 25 #[.int .i64 k, .int .i64 s, .slice a0 us.length c0] (0, 0) _ rfl hh Try.underlying25 rfl (by kernel_rfl)) rfl ⟨_, rfl, HE.out.2, _, _, _, _, _, rfl, HE.out.1⟩
end Go.Proofs.Ytkobfnpkebgmjaa
