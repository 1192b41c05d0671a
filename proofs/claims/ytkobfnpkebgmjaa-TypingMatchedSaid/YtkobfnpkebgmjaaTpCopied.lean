/-
  The walk of amortcostref6.copied. Condition: at most 1000000 nodes.
-/
import Derived.Test.YtkobfnpkebgmjaaTpRef
namespace Go.Proofs.Ytkobfnpkebgmjaa
open Go.RowKit Go.Deep

abbrev Rb : World → World → Prop := fun w w' => Below w.heap.size w w'
theorem rb_draw (W : World) : Rb W { W with drawn := W.drawn + 1 } := (Below.refl _ W).drew
theorem rb_trans {W : World} (w w' : World) (h : Rb W w) (k : Rb w w') : Rb W w' := below_next' h k
theorem rb_refl (w : World) : Rb w w := Below.refl _ _

/-- A type in three cells of a frame, in memory from B on. -/
def AggTp (B n : Nat) (x : Tp) (w : World) (v : Value) : Prop := ∃ k u a m c, v = .agg #[.int .i64 k, .int .i64 u, .slice a m c] ∧ TpC (cut w (fun b => B ≤ b)) n [.int .i64 k, .int .i64 u, .slice a m c] x
theorem AggTp.mono {B n : Nat} {x : Tp} (w w' : World) (v : Value) (h : Rb w w') (k : AggTp B n x w v) : AggTp B n x w' v := by
  obtain ⟨k, u, a, m, c, e, ht⟩ := k
  exact ⟨k, u, a, m, c, e, ht.kept (cut_below h fun _ h => h)⟩
/-- A slice of one such type. -/
def SlTp (B n : Nat) (x : Tp) (w : World) (v : Value) : Prop := ∃ g k u a m c, v = .slice (some ⟨g, 0, none⟩) 1 1 ∧ (∀ j y, [Value.int .i64 k, .int .i64 u, .slice a m c][j]? = some y → w.cell? ((⟨g, 0, none⟩ : Addr).add j) = some y) ∧ TpC (cut w (fun b => B ≤ b)) n [.int .i64 k, .int .i64 u, .slice a m c] x
theorem SlTp.mono {B n : Nat} {x : Tp} (w w' : World) (v : Value) (h : Rb w w') (k : SlTp B n x w v) : SlTp B n x w' v := by
  obtain ⟨g, k, u, a, m, c, e, hc, ht⟩ := k
  exact ⟨g, k, u, a, m, c, e, fun j y hj => cell_below h (hc j y hj), ht.kept (cut_below h fun _ h => h)⟩

theorem AggTp.from {B B' n : Nat} {x : Tp} {w : World} {v : Value} (h : AggTp B n x w v) (hB : B' ≤ B) : AggTp B' n x w v := by
  obtain ⟨k, u, a, m, c, e, ht⟩ := h
  exact ⟨k, u, a, m, c, e, ht.kept (cut_le fun b h => Nat.le_trans hB h)⟩
theorem three_at {w : World} {g : Nat} {x y z : Value} (h0 : w.cell? ⟨g, 0, none⟩ = some x) (h1 : w.cell? ⟨g, 1, none⟩ = some y) (h2 : w.cell? ⟨g, 2, none⟩ = some z) :
    ∀ j u, [x, y, z][j]? = some u → w.cell? ((⟨g, 0, none⟩ : Addr).add j) = some u := by
  intro j u h
  rw [add_spot, Nat.zero_add]
  match j, h with
  | 0, h => rw [h0]; simpa using h
  | 1, h => rw [h1]; simpa using h
  | 2, h => rw [h2]; simpa using h
theorem SlTp.new (w : World) (B n : Nat) (x : Tp) (k u : Int) (a : Option Addr) (m c : Nat) (t : Nat) (h : TpC (cut w (fun b => B ≤ b)) n [.int .i64 k, .int .i64 u, .slice a m c] x) :
    SlTp B n x (w.alloc (.cells #[.int .i64 k, .int .i64 u, .slice a m c] t)) (.slice (some ⟨w.heap.size, 0, none⟩) 1 1) := by
  have hB := BoxV.new w w.heap.size t (Nat.le_refl _) [.int .i64 k, .int .i64 u, .slice a m c]
  exact ⟨w.heap.size, k, u, a, m, c, rfl, three_at (hB.cell 0 (by simp)) (hB.cell 1 (by simp)) (hB.cell 2 (by simp)), h.kept (cut_below (below_alloc1 w _) fun _ h => h)⟩
/-- What the slots of 'out.Args = append(out.Args, copied(t.Args[i]))' hold. -/
def kCop (g1 g3 : Nat) (i : Int) (v0 vs : Value) (pe : Addr) (t0 t1 t2 : Value) (B n : Nat) (x : Tp) : Tmp → Kf Rb
  | 1 => .val (.pointer (some ⟨g1, 0, none⟩))
  | 3 => .val (.pointer (some ⟨g3, 0, none⟩))
  | 4 => .val (.int .i64 i)
  | 17 => .val (.pointer (some ⟨g3, 2, none⟩))
  | 18 => .val v0
  | 19 => .val (.pointer (some ⟨g1, 2, none⟩))
  | 20 => .val vs
  | 21 => .val (.int .i64 i)
  | 22 => .val (.pointer (some pe))
  | 23 => .val (.agg #[t0, t1, t2])
  | 24 => .fact (AggTp B n x) AggTp.mono
  | 25 => .fact (SlTp B n x) SlTp.mono
  | _ => .any

set_option maxRecDepth 100000 in
set_option maxHeartbeats 8000000 in
theorem copied_any : ∀ (n : Nat) (cs : List Value) (T : Tp) (w : World), TpC w.cell? n cs T → size T ≤ 1000000 →
    Calls Try.prog 22 #[.agg cs.toArray] w (fun e w' => ∃ r, e = .returned r ∧ Below w.heap.size w w' ∧ AggTp w.heap.size n T w' r) := by
  intro n
  induction n with
  | zero => intro cs T w h; exact h.elim
  | succ n ih =>
    intro cs T w hT hS
    obtain ⟨k, s, us⟩ := T
    obtain ⟨v, rfl, hk, hs, a, cap, rfl, hcap, hcap2, hrow⟩ := hT
    rw [size] at hS
    have hlen := length_sizeL us
    have hP : BoxV ((((w.alloc (.cells #[.int .i64 k, .int .i64 s, .slice a us.length cap] 25)).alloc (.cells #[.int .i64 0, .int .i64 0, .slice none 0 0] 25)).alloc (.cells #[.int .i64 k, .int .i64 s, .slice none 0 0] 25))) w.heap.size w.heap.size 25 [.int .i64 k, .int .i64 s, .slice a us.length cap] :=
      ((BoxV.new w w.heap.size 25 (Nat.le_refl _) _).alloc _).alloc _
    have hQ : BoxV ((((w.alloc (.cells #[.int .i64 k, .int .i64 s, .slice a us.length cap] 25)).alloc (.cells #[.int .i64 0, .int .i64 0, .slice none 0 0] 25)).alloc (.cells #[.int .i64 k, .int .i64 s, .slice none 0 0] 25))) w.heap.size (w.heap.size + 1) 25 [.int .i64 0, .int .i64 0, .slice none 0 0] := by
      have := (BoxV.new (w.alloc (.cells #[.int .i64 k, .int .i64 s, .slice a us.length cap] 25)) w.heap.size 25 (by simp) [.int .i64 0, .int .i64 0, .slice none 0 0]).alloc (.cells #[.int .i64 k, .int .i64 s, .slice none 0 0] 25)
      simpa using this
    have hO : BoxV ((((w.alloc (.cells #[.int .i64 k, .int .i64 s, .slice a us.length cap] 25)).alloc (.cells #[.int .i64 0, .int .i64 0, .slice none 0 0] 25)).alloc (.cells #[.int .i64 k, .int .i64 s, .slice none 0 0] 25))) w.heap.size (w.heap.size + 1 + 1) 25 [.int .i64 k, .int .i64 s, .slice none 0 0] := by
      have := (BoxV.new ((w.alloc (.cells #[.int .i64 k, .int .i64 s, .slice a us.length cap] 25)).alloc (.cells #[.int .i64 0, .int .i64 0, .slice none 0 0] 25)) w.heap.size 25 (by simp; omega) [.int .i64 k, .int .i64 s, .slice none 0 0])
      simpa using this
    have hb : Below w.heap.size w ((((w.alloc (.cells #[.int .i64 k, .int .i64 s, .slice a us.length cap] 25)).alloc (.cells #[.int .i64 0, .int .i64 0, .slice none 0 0] 25)).alloc (.cells #[.int .i64 k, .int .i64 s, .slice none 0 0] 25))) :=
      ((below_alloc1 w _).alloc (by simp) _).alloc (by simp; omega) _
    have H0 := Lib.hid (And.intro hP (And.intro hQ (And.intro hO hb)))
    have HA := Lib.hid (And.intro ih (And.intro hrow hS))
    clear ih hrow hP hQ hO hb
    go_enter Try.func22, Try.ntmps22
    go_wp2_with fail
    generalize (((w.alloc (.cells #[.int .i64 k, .int .i64 s, .slice a us.length cap] 25)).alloc (.cells #[.int .i64 0, .int .i64 0, .slice none 0 0] 25)).alloc (.cells #[.int .i64 k, .int .i64 s, .slice none 0 0] 25)) = W1 at H0 ⊢
    go_loopw [4] (fun x wr => ∃ (i : Nat) (v0 : Value), i ≤ us.length ∧ x = .int .i64 i ∧ Below w.heap.size w wr ∧ BoxV wr w.heap.size w.heap.size 25 [.int .i64 k, .int .i64 s, .slice a us.length cap] ∧ BoxV wr w.heap.size (w.heap.size + 1) 25 [.int .i64 0, .int .i64 0, .slice none 0 0] ∧
        BoxV wr w.heap.size (w.heap.size + 1 + 1) 25 [.int .i64 k, .int .i64 s, v0] ∧ TpOwn wr (w.heap.size + 3) n v0 (us.take i)) (fun x _ => us.length - (intOf x).toNat)
    case atStart => exact ⟨0, .slice none 0 0, Nat.zero_le _, rfl, H0.out.2.2.2, H0.out.1, H0.out.2.1, H0.out.2.2.1, by rw [List.take_zero]; exact TpOwn.nil _ _ _⟩
    case round =>
      obtain ⟨i, v0, hi, rfl, hb, hP, hQ, hO, hT⟩ := hrel
      have d2 := hP.cell 2 (by simp)
      have hl0 : (us.take i).length = i := by rw [List.length_take]; omega
      obtain ⟨a0, c0, rfl, hc0, hc0'⟩ := hT.shape
      rw [hl0] at hT hO
      clear hl0 hc0 hc0'
      by_cases hlt : i < us.length
      · have hii : (i : Int) < (us.length : Int) := by omega
        obtain ⟨b, o, cs', rfl, hcl, hcs, hTi⟩ := HA.out.2.1 i hlt
        match cs', hcl with
        | [t0, t1, t2], _ =>
          have i0 : wr.cell? ⟨b, o + i * 3, none⟩ = some t0 := cell_below hb (hcs 0 (by omega))
          have i1 : wr.cell? ⟨b, o + i * 3 + 1, none⟩ = some t1 := cell_below hb (hcs 1 (by omega))
          have i2 : wr.cell? ⟨b, o + i * 3 + 2, none⟩ = some t2 := cell_below hb (hcs 2 (by omega))
          have e2 := hO.cell 2 (by simp)
          have hsz : size us[i] ≤ 1000000 := by have := size_mem (List.getElem_mem hlt); have := HA.out.2.2; omega
          have hTi' : TpC wr.cell? n [t0, t1, t2] us[i] := hTi.kept fun _ _ h => cell_below hb h
          have HR := Lib.hid (And.intro hb (And.intro hP (And.intro hQ (And.intro hO (And.intro hT (And.intro hTi' (And.intro hsz (And.intro i0 (And.intro i1 (And.intro i2 (And.intro d2 e2)))))))))))
          clear hb hP hQ hO hT hTi hTi' hcs hsz i0 i1 i2 e2
          go_wp2_with fail
          refine region_put Rb (fun t => (kCop w.heap.size (w.heap.size + 1 + 1) i (.slice a0 i c0) (.slice (some ⟨b, o, none⟩) us.length cap) ⟨b, o + i * 3, none⟩ t0 t1 t2 wr.heap.size n us[i] t).holds) (by rfl) (rb_draw wr) (fun w w' => rb_trans w w') rb_refl (fun _ _ h => Below.size h) (fun t w w' v => Kf.mono _ w w' v) 29 9 (by rfl) (by kernel_rfl) (by kernel_rfl) (by kernel_rfl) (by kernel_rfl) [1, 3, 4] (by kernel_rfl) ?h0 ?steps ?fin
          case h0 =>
            intro t ht
            simp only [List.mem_cons, List.not_mem_nil, or_false] at ht
            rcases ht with rfl | rfl | rfl <;> rfl
          case steps =>
            refine ⟨front_val rfl rb_refl fun a w' hR hf => ?_, front_val rfl rb_refl fun a w' hR hf => ?_, front_val rfl rb_refl fun a w' hR hf => ?_, front_val rfl rb_refl fun a w' hR hf => ?_, front_val rfl rb_refl fun a w' hR hf => ?_, front_val rfl rb_refl fun a w' hR hf => ?_, front_val rfl rb_refl fun a w' hR hf => ?_, front_wp rfl fun a w' Q hR hf => ?_, front_wp rfl fun a w' Q hR hf => ?_, trivial⟩
            · have h1 : a.tmps.getD 3 undef = _ := hf 3 (by simp [Op.operands])
              go_simp
            · have h1 : a.tmps.getD 17 undef = _ := hf 17 (by simp [Op.operands])
              have c1 := cell_below hR HR.out.2.2.2.2.2.2.2.2.2.2.2
              go_simp
            · have h1 : a.tmps.getD 1 undef = _ := hf 1 (by simp [Op.operands])
              go_simp
            · have h1 : a.tmps.getD 19 undef = _ := hf 19 (by simp [Op.operands])
              have c1 := cell_below hR HR.out.2.2.2.2.2.2.2.2.2.2.1
              go_simp
            · have h1 : a.tmps.getD 4 undef = _ := hf 4 (by simp [Op.operands])
              go_simp
            · have h1 : a.tmps.getD 20 undef = _ := hf 20 (by simp [Op.operands])
              have h2 : a.tmps.getD 21 undef = _ := hf 21 (by simp [Op.operands])
              go_simp
            · have h1 : a.tmps.getD 22 undef = _ := hf 22 (by simp [Op.operands])
              have c0 := cell_below hR HR.out.2.2.2.2.2.2.2.1
              have c1 := cell_below hR HR.out.2.2.2.2.2.2.2.2.1
              have c2 := cell_below hR HR.out.2.2.2.2.2.2.2.2.2.1
              go_simp
            · have h1 : a.tmps.getD 23 undef = .agg #[t0, t1, t2] := hf 23 (by simp [Op.operands, Call.operands])
              have hrun : Sem.run Try.prog (execOp a.eval ⟨some 24, .call ⟨.value (.func 22), #[.tmp 23], #[25]⟩, 25, "typing.go:467", #[⟨6, .data⟩], none⟩) w' = .ok (.enter 22 #[.agg #[t0, t1, t2]]) w' := by go_simp
              unfold Oper.wp
              rw [hrun, Oper.upon_enter]
              refine (HA.out.1 [t0, t1, t2] us[i] w' (HR.out.2.2.2.2.2.1.kept fun _ _ h => cell_below hR h) HR.out.2.2.2.2.2.2.1).mono ?_
              rintro e w6 ⟨r, rfl, hb6, hr⟩
              exact ⟨r, rfl, hb6, hr.from hR.size⟩
            · obtain ⟨k1, u1, a1, m1, c1, h1, hx⟩ : AggTp wr.heap.size n us[i] w' (a.tmps.getD 24 undef) := hf 24 (by simp [Op.operands])
              have h2 : a.tmps[24]?.getD undef = .agg #[.int .i64 k1, .int .i64 u1, .slice a1 m1 c1] := by rw [← Array.getD_eq_getD_getElem?]; exact h1
              have hrun : Sem.run Try.prog (execOp a.eval ⟨some 25, .buildSlice 23 1 #[(0, .tmp 24)], 23, "typing.go:467", #[⟨7, .data⟩], none⟩) w' = .ok (.value (.slice (some ⟨w'.heap.size, 0, none⟩) 1 1)) (w'.alloc (.cells #[.int .i64 k1, .int .i64 u1, .slice a1 m1 c1] 25)) := by go_simp
              unfold Oper.wp
              rw [hrun, Oper.upon_value]
              exact ⟨_, rfl, below_alloc1 w' _, SlTp.new w' _ _ _ _ _ _ _ _ _ hx⟩
          case fin =>
            intro u w6 hb6 hf
            have f18 : u 18 = _ := hf 1 18 (by decide) rfl
            obtain ⟨g, k1, u1, a1, m1, c1, f25, hnews, hx⟩ : SlTp _ _ _ w6 (u 25) := hf 8 25 (by decide) rfl
            simp only [putAll, List.drop_succ_cons, List.drop_zero, List.take_succ_cons, List.take_zero, Act.put, List.setIfInBounds_toArray, List.set_cons_succ, List.set_cons_zero]
            rw [f18, f25]
            clear hf f18 f25
            have hT6 := HR.out.2.2.2.2.1.below hb6
            have hlt6 := own_len HR.out.2.2.2.2.1
            have hx6 : TpC (cut w6 (fun b => w.heap.size + 3 ≤ b ∧ some b ≠ (Value.slice a0 i c0).ownBlock)) n [.int .i64 k1, .int .i64 u1, .slice a1 m1 c1] us[i] := hx.kept fun _ _ h => cut_le (fun b hb => ⟨by have := (HR.out.2.2.2.1.block).2; omega, fun e => by have := (hlt6 b e.symm).2; omega⟩) _ _ h
            have hO6 := HR.out.2.2.2.1.below hb6
            have hn1 : ∀ j, j < w.heap.size + 3 → some j ≠ (Value.slice a0 i c0).ownBlock := fun j hj e => by have := (hlt6 j e.symm).1; omega
            have H6 := Lib.hid (And.intro hT6 (And.intro hx6 (And.intro hnews (And.intro hO6 (And.intro (HR.out.2.1.below hb6) (And.intro (HR.out.2.2.1.below hb6) (And.intro (below_next' HR.out.1 hb6) (And.intro hlt6 hn1))))))))
            have hB6 : w.heap.size + 3 ≤ w6.heap.size := by have := (HR.out.2.2.2.1.block).2; have := hb6.size; omega
            have hl6 : (us.take i).length ≤ 1000000 := by rw [List.length_take]; omega
            have hl7 : (us.take i ++ [us[i]]).length = i + 1 := by rw [List.length_append, List.length_take, List.length_singleton]; omega
            have hl8 := Lib.hid hl7
            clear hl7
            clear hT6 hx6 hnews hO6 hx hlt6 hn1 hb6
            go_wp2_with (at_builtin; refine wpList_append_tp rfl _ _ rfl (w.heap.size + 3) n _ (us.take i) rfl H6.out.1 ⟨g, 0, none⟩ 1 _ _ _ _ rfl H6.out.2.2.1 H6.out.2.1 hl6 hB6 ?_; intro v7 w7 hT7 hg7 hv7; obtain ⟨a7, c7, hs7, hc7, hc8⟩ := hT7.shape; rw [hl8.out] at hs7; subst hs7; clear hc7 hc8; have hO7 := H6.out.2.2.2.1.kept hg7 (H6.out.2.2.2.2.2.2.2.2 (w.heap.size + 1 + 1) (Nat.lt_succ_self _)); have e7 := hO7.cell 2 (by simp); have f7 := hO7.frozen 2; have H7 := Lib.hid (And.intro hT7 (And.intro hg7 hO7)); clear hT7 hg7 hO7 hv7)
            go_roundw
            case rel =>
              have hG := grown_set w7 (w.heap.size + 1 + 1) 2 (.slice a7 (i + 1) c7)
              have hT8 : TpOwn w7 (w.heap.size + 3) n (.slice a7 (i + 1) c7) (us.take (i + 1)) := by
                rw [List.take_succ_eq_append_getElem hlt]
                exact H7.out.1
              have hP7 := H6.out.2.2.2.2.1.kept H7.out.2.1 (H6.out.2.2.2.2.2.2.2.2 w.heap.size (by omega))
              have hQ7 := H6.out.2.2.2.2.2.1.kept H7.out.2.1 (H6.out.2.2.2.2.2.2.2.2 (w.heap.size + 1) (by omega))
              have hb7 := H6.out.2.2.2.2.2.2.1.grown H7.out.2.1 H6.out.2.2.2.2.2.2.1.size (fun q hq => by have := (H6.out.2.2.2.2.2.2.2.1 q hq).1; omega)
              exact ⟨i + 1, _, by omega, by go_num, hb7.grown hG hb7.size (fun q hq => by cases hq; omega), hP7.kept hG (by simp; omega), hQ7.kept hG (by simp), boxV_setT H7.out.2.2 2 _, hT8.kept hG (fun q hq => by cases hq; exact .inl (by omega))⟩
            case measure => simp [intOf] <;> omega
      · obtain rfl : i = us.length := by omega
        rw [List.take_length] at hT
        have hO2 := hO.cell 2 (by simp)
        have hO1 := hO.cell 1 (by simp)
        have hO0 := hO.cell 0 (by simp)
        have q0 := hQ.cell 0 (by simp)
        have q1 := hQ.cell 1 (by simp)
        have q2 := hQ.cell 2 (by simp)
        have p0 := hQ.frozen 0
        have p1 := hQ.frozen 1
        have p2 := hQ.frozen 2
        have HF := Lib.hid (And.intro hb (And.intro hP (And.intro hQ (And.intro hO hT))))
        clear hb hP hQ hO hT hlt
        go_wp2_with fail
        have hG1 := grown_set wr (w.heap.size + 1) 0 (.int .i64 k)
        have hG2 := grown_set (wr.setCell ⟨w.heap.size + 1, 0, none⟩ (.int .i64 k)) (w.heap.size + 1) 1 (.int .i64 s)
        have hG3 := grown_set ((wr.setCell ⟨w.heap.size + 1, 0, none⟩ (.int .i64 k)).setCell ⟨w.heap.size + 1, 1, none⟩ (.int .i64 s)) (w.heap.size + 1) 2 (.slice a0 us.length c0)
        have hG := grown_trans (grown_trans hG1 hG2) hG3
        have hQ9 : BoxV _ w.heap.size (w.heap.size + 1) 25 [.int .i64 k, .int .i64 s, .slice a0 us.length c0] := boxV_setT (boxV_setT (boxV_setT HF.out.2.2.1 0 (.int .i64 k)) 1 (.int .i64 s)) 2 (.slice a0 us.length c0)
        have hT9 := HF.out.2.2.2.2.kept hG (fun q hq => by cases hq; exact .inl (by omega))
        have hb9 := HF.out.1.grown hG HF.out.1.size (fun q hq => by cases hq; omega)
        have hR9 : TpC (cut _ (fun b => w.heap.size ≤ b)) (n + 1) [.int .i64 k, .int .i64 s, .slice a0 us.length c0] (.mk k s us) := ⟨_, rfl, hk, hs, hT9.tps.kept (cut_le fun b h => by omega)⟩
        have HE := Lib.hid (And.intro hR9 hb9)
        have hh := hQ9.heap
        clear hO2 hO1 hO0 q0 q1 q2 p0 p1 p2 hG1 hG2 hG3 hG hQ9 hT9 hb9 hR9
        generalize ((wr.setCell ⟨w.heap.size + 1, 0, none⟩ (.int .i64 k)).setCell ⟨w.heap.size + 1, 1, none⟩ (.int .i64 s)).setCell ⟨w.heap.size + 1, 2, none⟩ (.slice a0 us.length c0) = W9 at HE hh ⊢
        exact bodyPost_ret (v := .agg #[.int .i64 k, .int .i64 s, .slice a0 us.length c0]) (results_cell_row (P := Try.prog) Try.results22 _ _ (w.heap.size + 1) 25 #[.int .i64 k, .int .i64 s, .slice a0 us.length c0] (0, 0) _ rfl hh Try.underlying25 rfl (by kernel_rfl)) rfl ⟨_, rfl, HE.out.2, _, _, _, _, _, rfl, HE.out.1⟩
end Go.Proofs.Ytkobfnpkebgmjaa
