/-
  Lists of numbers: keep.Rats and Sum.
-/
import Derived.Test.YtdpiclmjdcjajaaQ14
import Derived.Test.YtdpiclmjdcjajaaOpen
import Derived.Deep.Slices
import Derived.Deep.Fields
namespace Go.Proofs.Ytdpiclmjdcjajaa
open Go.RowKit Num

/-- The i-th element of a list of numbers. -/
def ElemAt (w : World) (a : Option Addr) (i : Nat) (f : Nat → Rat) (sm : Nat → Bool) : Prop :=
  ∃ b o neg an m cn ad m2 cd k, a = some ⟨b, o, none⟩ ∧ w.cell? ⟨b, o + i * 3, none⟩ = some (.bool neg) ∧ w.cell? ⟨b, o + i * 3 + 1, none⟩ = some (.slice an m cn) ∧ w.cell? ⟨b, o + i * 3 + 2, none⟩ = some (.slice ad m2 cd) ∧
    RatV w neg an m cn ad m2 cd k (f i) ∧ sm i = decide (m ≤ 8 ∧ m2 ≤ 8)

theorem ElemAt.below {w w' : World} {a : Option Addr} {i : Nat} {f : Nat → Rat} {sm : Nat → Bool} (h : ElemAt w a i f sm) (hb : Below w.heap.size w w') : ElemAt w' a i f sm := by
  obtain ⟨b, o, neg, an, m, cn, ad, m2, cd, k, e, c0, c1, c2, hr, hs⟩ := h
  exact ⟨b, o, neg, an, m, cn, ad, m2, cd, k, e, cell_below hb c0, cell_below hb c1, cell_below hb c2, hr.below hb, hs⟩

def RatsP (n : Nat) (sm : Nat → Bool) (w : World) (e : Ending) (w' : World) : Prop := ∃ b, e = .returned (.bool b) ∧ (b = true → n ≤ 12 ∧ ∀ i, i < n → sm i = true) ∧ Below w.heap.size w w'

set_option maxHeartbeats 2000000 in
theorem rats_any (a : Option Addr) (n cap : Nat) (f : Nat → Rat) (sm : Nat → Bool) (w : World) (hn : n ≤ 9223372036854775807) (h : ∀ i, i < n → ElemAt w a i f sm) :
    Calls Try.prog 24 #[.slice a n cap, .int .i64 12] w (RatsP n sm w) := by
  go_enter Try.func24, Try.ntmps24
  go_wp2
  go_loopw [5] (fun i wr => ∃ q : Nat, i = .int .i64 q ∧ q ≤ n ∧ q ≤ 13 ∧ (∀ j, j < q → sm j = true) ∧ Below w.heap.size w wr) (fun i _ => 13 - (intOf i).toNat)
  case atStart => exact ⟨0, rfl, Nat.zero_le _, by omega, fun j hj => by omega, Below.refl _ _⟩
  case round =>
    obtain ⟨q, rfl, hq, hq13, hsm, hbel⟩ := hrel
    by_cases hlt : q < n ∧ q ≤ 12
    · obtain ⟨b, o, neg, an, m, cn, ad, m2, cd, k, rfl, c0, c1, c2, hr, hs⟩ := (h q hlt.1).below hbel
      have h1 := hlt.1
      have h2 := hlt.2
      have HS := Lib.hid (And.intro hsm (And.intro hbel hs))
      clear hlt hsm hbel hs hr
      go_wp2_with fail
      refine (keepRat_any _ _ _ _ _ _ _ _).mono ?_
      rintro e w1 ⟨rfl, hb1⟩
      rw [← HS.out.2.2]
      have HB := Lib.hid (below_next' HS.out.2.1 hb1)
      clear c0 c1 c2 hb1
      cases hsq : sm q
      · go_wp2
        go_ret
        exact ⟨false, rfl, fun e => (by cases e), HB.out⟩
      · have HQ := Lib.hid hsq
        go_wp2
        go_round
        case rel =>
          refine ⟨q + 1, by go_num, by omega, by omega, fun j hj => ?_, HB.out⟩
          rcases Nat.lt_or_ge j q with h | h
          · exact HS.out.1 j h
          · rw [show j = q by omega]; exact HQ.out
        case measure => simp [intOf]; omega
    · have HS := Lib.hid (And.intro hsm (And.intro hbel hlt))
      clear hsm hbel
      by_cases h1 : q < n
      · have h2 : ¬ q ≤ 12 := fun h => hlt ⟨h1, h⟩
        clear hlt
        go_wp2
        go_ret
        refine ⟨_, rfl, fun e => ?_, HS.out.2.1⟩
        simp at e
        omega
      · clear hlt
        go_wp2
        go_ret
        refine ⟨_, rfl, fun e => ?_, HS.out.2.1⟩
        simp at e
        exact ⟨by omega, fun i hi => HS.out.1 i (by omega)⟩

/-- The sum of the first numbers. -/
def sumN (f : Nat → Rat) : Nat → Rat
  | 0 => 0
  | i + 1 => sumN f i + f i

theorem sz_sumN {f : Nat → Rat} {n : Nat} (h : ∀ i, i < n → Sz (f i) 9) : ∀ i, i ≤ n → Sz (sumN f i) (10 * i + 1)
  | 0, _ => show Sz 0 1 from sz_of_small (by decide) (by decide)
  | i + 1, hi => by
    have h1 := sz_add (sz_sumN h i (by omega)) (h i (by omega))
    rw [show 10 * (i + 1) + 1 = 10 * i + 1 + 9 + 1 by omega]
    exact h1

/-- What Sum holds. -/
def SumI (w : World) (g : Nat) (s : Rat) (wr : World) : Prop :=
  ∃ an ln cn ad ld cd, BoxV wr w.heap.size g 24 [.bool (decide (s.num < 0)), .slice an ln cn, .slice ad ld cd] ∧ RatC wr (.agg #[.bool (decide (s.num < 0)), .slice an ln cn, .slice ad ld cd]) s ∧
    BoxV wr w.heap.size w.heap.size 24 [.bool false, .slice none 0 0, .slice none 0 0] ∧ Below w.heap.size w wr

theorem SumI.next {w w2 : World} {g : Nat} {s : Rat} {an ad : Option Addr} {ln cn ld cd : Nat} {x y z : Value} (hg : w.heap.size ≠ g) (hB : BoxV w2 w.heap.size g 24 [x, y, z]) (hx : NoLimb [x, y, z])
    (hZ : BoxV w2 w.heap.size w.heap.size 24 [.bool false, .slice none 0 0, .slice none 0 0]) (hb : Below w.heap.size w w2) (h : RatC w2 (.agg #[.bool (decide (s.num < 0)), .slice an ln cn, .slice ad ld cd]) s) :
    SumI w g s (((w2.setCell ⟨g, 0, none⟩ (.bool (decide (s.num < 0)))).setCell ⟨g, 1, none⟩ (.slice an ln cn)).setCell ⟨g, 2, none⟩ (.slice ad ld cd)) := by
  have hgr := grown_set3 w2 g (.bool (decide (s.num < 0))) (.slice an ln cn) (.slice ad ld cd)
  exact ⟨an, ln, cn, ad, ld, cd, hB.store3 _ _ _, h.other hB hx hgr, hZ.kept hgr (by simpa using hg), below_set3 hb hB.block.1 _ _ _⟩

set_option maxHeartbeats 2000000 in
theorem sum_any (a : Option Addr) (n cap : Nat) (f : Nat → Rat) (sm : Nat → Bool) (w : World) (hn : n ≤ 12) (h : ∀ i, i < n → ElemAt w a i f sm) (hsm : ∀ i, i < n → sm i = true) :
    Calls Try.prog 105 #[.slice a n cap] w (RatP (sumN f n) w) := by
  have hel : ∀ (W : World), Below w.heap.size w W → ∀ i, i < n → ∃ b o neg an m cn ad m2 cd, a = some ⟨b, o, none⟩ ∧ W.cell? ⟨b, o + i * 3, none⟩ = some (.bool neg) ∧ W.cell? ⟨b, o + i * 3 + 1, none⟩ = some (.slice an m cn) ∧ W.cell? ⟨b, o + i * 3 + 2, none⟩ = some (.slice ad m2 cd) ∧ RatV W neg an m cn ad m2 cd 8 (f i) := fun W hW i hi => by
    obtain ⟨b, o, neg, an, m, cn, ad, m2, cd, k, e, c0, c1, c2, hr, hs⟩ := (h i hi).below hW
    rw [hsm i hi] at hs
    have hs' := of_decide_eq_true hs.symm
    exact ⟨b, o, neg, an, m, cn, ad, m2, cd, e, c0, c1, c2, hr.le hs'.1 hs'.2⟩
  have hsz : ∀ i, i < n → Sz (f i) 9 := fun i hi => by
    obtain ⟨_, _, _, _, _, _, _, _, _, _, _, _, _, hr⟩ := hel w (Below.refl _ _) i hi
    exact hr.sz
  have hb0 := below_alloc1 w (.cells #[.bool false, .slice none 0 0, .slice none 0 0] 24)
  have hB := BoxV.new w w.heap.size 24 (Nat.le_refl _) [.bool false, .slice none 0 0, .slice none 0 0]
  have HA := Lib.hid (And.intro hel (And.intro (sz_sumN hsz) (And.intro hb0 hB)))
  clear hel hsz hb0 hB h hsm
  go_enter Try.func105, Try.ntmps105
  go_wp2_with fail
  refine (zero_any _).mono ?_
  rintro e w1 ⟨v, rfl, hv, hb1⟩
  have hB1 := HA.out.2.2.2.below hb1
  have hlt := hB1.block.2
  have H1 := Lib.hid (And.intro hv (And.intro hB1 (below_next' HA.out.2.2.1 hb1)))
  obtain ⟨z1, z2, z3, z4, z5, z6, rfl, _⟩ := hv
  clear hb1 hB1
  go_wp2
  have hb2 := below_alloc1 w1 (.cells #[.bool (decide ((0 : Rat).num < 0)), .slice z1 z2 z3, .slice z4 z5 z6] 24)
  have hB2 := BoxV.new w1 w.heap.size 24 (Nat.le_of_lt hlt) [.bool (decide ((0 : Rat).num < 0)), .slice z1 z2 z3, .slice z4 z5 z6]
  have HI := Lib.hid (show SumI w w1.heap.size (sumN f 0) _ from ⟨z1, z2, z3, z4, z5, z6, hB2, H1.out.1.below hb2, H1.out.2.1.below hb2, below_next' H1.out.2.2 hb2⟩)
  clear hb2 hB2
  go_loopw [9] (fun i wr => ∃ q : Nat, i = .int .i64 q ∧ q ≤ n ∧ SumI w w1.heap.size (sumN f q) wr) (fun i _ => n - (intOf i).toNat)
  case atStart => exact ⟨0, rfl, Nat.zero_le _, HI.out⟩
  case round =>
    obtain ⟨q, rfl, hq, an, ln, cn, ad, ld, cd, hBs, hC, hZ, hbel⟩ := hrel
    obtain ⟨⟨k0, k1, k2⟩, i0, i1, i2⟩ := hBs.three
    have t1 := hBs.block.2
    by_cases hlt2 : q < n
    · obtain ⟨b, o, neg, ea, m, cn', ed, m2, cd', rfl, c0, c1, c2, hr⟩ := HA.out.1 _ hbel q hlt2
      have hb5 := fun W => below_alloc1 W (.cells #[.bool neg, .slice ea m cn', .slice ed m2 cd'] 24)
      have hadd := add_a (k := 200) (((hC.a (HA.out.2.1 q hq)).le (by omega)).below (hb5 _)) ((hr.a.le (by omega)).below (hb5 _)) (by omega)
      have HR := Lib.hid (And.intro hadd (And.intro hBs (And.intro hZ (And.intro hbel (hb5 wr)))))
      clear hadd hBs hZ hbel hb5 hC hr
      go_wp2_with fail
      refine HR.out.1.mono ?_
      rintro e w2 ⟨v, rfl, hv, hb6⟩
      have hb7 := below_next HR.out.2.2.2.2 hb6
      have hB2 := HR.out.2.1.below hb7
      have hZ2 := HR.out.2.2.1.below hb7
      have hbel2 := below_next' HR.out.2.2.2.1 hb7
      have HV := Lib.hid hv
      obtain ⟨y1, y2, y3, y4, y5, y6, rfl, _⟩ := hv
      clear k0 k1 k2 i0 i1 i2 c0 c1 c2 hb6 hb7 t1
      obtain ⟨⟨k0, k1, k2⟩, i0, i1, i2⟩ := hB2.three
      have HF := Lib.hid (And.intro hB2 (And.intro hZ2 hbel2))
      clear hB2 hZ2 hbel2
      go_wp2
      go_round
      case rel => exact ⟨q + 1, by go_num, by omega, SumI.next (s := sumN f q + f q) (by omega) HF.out.1 (noLimb_rat _ _ _ _ _ _ _) HF.out.2.1 HF.out.2.2 HV.out⟩
      case measure => simp [intOf]; omega
    · obtain ⟨⟨x0, x1, x2⟩, j0, j1, j2⟩ := hZ.three
      have HF := Lib.hid (And.intro hbel (And.intro hZ hC))
      have hqn : q = n := by omega
      subst hqn
      clear hbel hZ hC hBs hlt2
      go_wp2
      obtain ⟨e1, e2⟩ := ratC_end HF.out.1 HF.out.2.1 HF.out.2.2
      obtain ⟨⟨x0, x1, x2⟩, _⟩ := (HF.out.2.1.store3 (.bool (decide ((sumN f q).num < 0))) (.slice an ln cn) (.slice ad ld cd)).three
      exact bodyPost_ret (v := .agg #[.bool (decide ((sumN f q).num < 0)), .slice an ln cn, .slice ad ld cd]) (by simp [results, Try.results105, go_sem, x0, x1, x2]) rfl ⟨_, rfl, e1, e2⟩

end Go.Proofs.Ytdpiclmjdcjajaa

/-
  The reference's walk of Sum.
-/
namespace Go.Proofs.Ytdpiclmjdcjajaa
open Go.RowKit Num

/-- One element of a list. -/
def ElemV (w : World) (a : Option Addr) (i : Nat) (p : Rat) : Prop :=
  ∃ b o x0 x1 x2, a = some ⟨b, o, none⟩ ∧ w.cell? ⟨b, o + i * 3, none⟩ = some x0 ∧ w.cell? ⟨b, o + i * 3 + 1, none⟩ = some x1 ∧ w.cell? ⟨b, o + i * 3 + 2, none⟩ = some x2 ∧ RatA w (.agg #[x0, x1, x2]) 8 p
theorem ElemV.below {w w' : World} {a : Option Addr} {i : Nat} {p : Rat} (hb : Below w.heap.size w w') (h : ElemV w a i p) : ElemV w' a i p := by
  obtain ⟨b, o, x0, x1, x2, e, c0, c1, c2, hr⟩ := h
  exact ⟨b, o, x0, x1, x2, e, cell_below hb c0, cell_below hb c1, cell_below hb c2, hr.below hb⟩

def Ke.sl (a : Option Addr) (n cap i : Nat) (p : Rat) : Ke := ⟨fun w v => v = .slice a n cap ∧ ElemV w a i p, fun hb h => ⟨h.1, h.2.below hb⟩⟩
def Ke.el (p : Rat) : Ke := ⟨fun w v => ∃ b o x0 x1 x2, v = .pointer (some ⟨b, o, none⟩) ∧ w.cell? ⟨b, o, none⟩ = some x0 ∧ w.cell? ⟨b, o + 1, none⟩ = some x1 ∧ w.cell? ⟨b, o + 2, none⟩ = some x2 ∧ RatA w (.agg #[x0, x1, x2]) 8 p,
  fun hb ⟨b, o, x0, x1, x2, e, c0, c1, c2, hr⟩ => ⟨b, o, x0, x1, x2, e, cell_below hb c0, cell_below hb c1, cell_below hb c2, hr.below hb⟩⟩
def Ke.ra (k : Nat) (p : Rat) : Ke := ⟨fun w v => RatA w v k p, fun hb h => h.below hb⟩

theorem run_index (a : Act) (d : Option Tmp) (ty : TypeId) (pos : String) (es : Array Edge) (w : World) (t u : Tmp) (b o n cap i : Nat)
    (ht : a.tmps.getD t undef = .slice (some ⟨b, o, none⟩) n cap) (hu : a.tmps.getD u undef = .int .i64 i) (hi : i < n) :
    Sem.run Try.prog (execOp a.eval ⟨d, .indexAddr 32 (.tmp t) (.tmp u), ty, pos, es, none⟩) w = .ok (.value (.pointer (some ⟨b, o + i * 3, none⟩))) w := by
  go_simp

theorem run_load24' (a : Act) (d : Option Tmp) (ty : TypeId) (pos : String) (es : Array Edge) (w : World) (t : Tmp) (g o : Nat) (x y z : Value)
    (ht : a.tmps.getD t undef = .pointer (some ⟨g, o, none⟩)) (h0 : w.cell? ⟨g, o, none⟩ = some x) (h1 : w.cell? ⟨g, o + 1, none⟩ = some y) (h2 : w.cell? ⟨g, o + 2, none⟩ = some z) :
    Sem.run Try.prog (execOp a.eval ⟨d, .load 24 (.tmp t), ty, pos, es, none⟩) w = .ok (.value (.agg #[x, y, z])) w := by
  go_simp

section
variable {κ : Tmp → Ke} {G : Nat → Option Tmp} {d s t u c : Tmp} {ty : TypeId} {pos : String} {es : Array Edge} {k x y : Nat} {p q : Rat}
theorem e_index {a' : Option Addr} {n cap i : Nat} (ht : κ t = .sl a' n cap i p) (hu : κ u = .con (.int .i64 i)) (hd : κ d = .el p) (hi : i < n) : FlowStep Try.prog (Fe κ) G ⟨some d, .indexAddr 32 (.tmp t) (.tmp u), ty, pos, es, none⟩ := by
  refine e_step rfl fun a w Q hf => ?_
  have h := hf t (by simp [Op.operands])
  have h' := hf u (by simp [Op.operands])
  rw [ht] at h
  rw [hu] at h'
  obtain ⟨e, b, o, x0, x1, x2, rfl, c0, c1, c2, hr⟩ := (show _ ∧ ElemV w _ _ _ from h)
  have h' : a.tmps.getD u undef = .int .i64 i := h'
  unfold Oper.wp
  rw [run_index _ _ _ _ _ _ _ _ b o n cap i e h' hi, Oper.upon_value]
  exact ⟨_, rfl, Below.refl _ _, fun d' hd' => by cases hd'; rw [hd]; exact ⟨b, o + i * 3, x0, x1, x2, rfl, c0, c1, c2, hr⟩⟩
theorem e_loadE (ht : κ t = .el p) (hd : κ d = .ra 8 p) : FlowStep Try.prog (Fe κ) G ⟨some d, .load 24 (.tmp t), ty, pos, es, none⟩ := by
  refine e_step rfl fun a w Q hf => ?_
  have h := hf t (by simp [Op.operands])
  rw [ht] at h
  obtain ⟨b, o, x0, x1, x2, e, c0, c1, c2, hr⟩ := (show ∃ b o x0 x1 x2, a.tmps.getD t undef = .pointer (some ⟨b, o, none⟩) ∧ w.cell? ⟨b, o, none⟩ = some x0 ∧ w.cell? ⟨b, o + 1, none⟩ = some x1 ∧ w.cell? ⟨b, o + 2, none⟩ = some x2 ∧ RatA w (.agg #[x0, x1, x2]) 8 p from h)
  unfold Oper.wp
  rw [run_load24' _ _ _ _ _ _ _ b o x0 x1 x2 e c0 c1 c2, Oper.upon_value]
  exact ⟨_, rfl, Below.refl _ _, fun d' hd' => by cases hd'; rw [hd]; exact hr⟩
set_option maxRecDepth 100000 in
theorem e_loadC (ht : κ t = .box k q) (hd : κ d = .ra k q) : FlowStep Try.prog (Fe κ) G ⟨some d, .load 24 (.tmp t), ty, pos, es, none⟩ := by
  refine e_step rfl fun a w Q hf => ?_
  have h := hf t (by simp [Op.operands])
  rw [ht] at h
  obtain ⟨b, x0, x1, x2, e, c0, c1, c2, hr, hs⟩ := (show (Kd.boxC k q).holds w _ from h)
  unfold Oper.wp
  rw [run_load24' _ _ _ _ _ _ _ b 0 x0 x1 x2 e c0 c1 c2, Oper.upon_value]
  exact ⟨_, rfl, Below.refl _ _, fun d' hd' => by cases hd'; rw [hd]; exact hr.a hs⟩
theorem e_add36 (ht : κ t = .ra k p) (hu : κ u = .ra 8 q) (hd : κ d = .ratC (p + q)) (hk : k ≤ 10000) : FlowStep Try.prog (Fe κ) G ⟨some d, .call ⟨.value (.func 44), #[.tmp t, .tmp u], #[24, 24]⟩, ty, pos, es, none⟩ := by
  refine e_step rfl fun a w Q hf => ?_
  have h1 := hf t (by simp [Op.operands, Call.operands])
  have h2 := hf u (by simp [Op.operands, Call.operands])
  rw [ht] at h1
  rw [hu] at h2
  have h1 : RatA w (a.tmps.getD t undef) k p := h1
  have h2 : RatA w (a.tmps.getD u undef) 8 q := h2
  unfold Oper.wp
  rw [c2_36, Oper.upon_enter]
  refine (refAdd_a (k := k + 8) (h1.le (by omega)) (h2.le (by omega)) (by omega)).mono ?_
  rintro e w' ⟨v, rfl, hv, hb⟩
  exact ⟨_, rfl, hb, fun d' hd' => by cases hd'; rw [hd]; exact hv⟩
end

def sumB (a : Option Addr) (n cap i : Nat) (s p : Rat) : Tmp → Ke := fun t => ([.sl a n cap i p, .any, .any, .box 200 s, .con (.int .i64 i), .any, .any, .any, .any, .any, .any, .any, .ra 200 s, .sl a n cap i p, .con (.int .i64 i), .el p, .ra 8 p, .ratC (s + p)] : List Ke).getD t .any

end Go.Proofs.Ytdpiclmjdcjajaa

/-
  The walk of the law RationalSums, and a list of numbers as an argument. No conditions.
-/
namespace Go.Proofs.Ytdpiclmjdcjajaa
open Go.ChangeShapes Go.WideShapes Go.ChangeAt Go.RowKit Go.Deep Num

set_option maxRecDepth 100000 in
/-- One element of a list of numbers. -/
theorem elem_open {H : Type} {enc : TypeId × Value → H} {W : World} {sp : Nat → Bool} {held : Bool} {n base b o : Nat} {i : Nat} {cs : List Value} {x : DataW H × List MemPlace}
    (hc : W.cells? base ((⟨b, o, none⟩ : Addr).add (i * 3)) 3 = some cs) (ht : DataW.trod enc Try.prog W 0 sp held n 24 cs = some x) : ∃ (q : Rat) (s : Bool), ElemAt W (some ⟨b, o, none⟩) i (fun _ => q) (fun _ => s) := by
  obtain ⟨_, hl, hcell⟩ := World.cells?_some hc
  obtain ⟨xs, n', _, _, _, hlen, hf⟩ := DataW.trod_struct Try.underlying24 ht
  match cs, hl with
  | [v0, v1, v2], _ =>
    have c0 := hcell 0 (by omega)
    have c1 := hcell 1 (by omega)
    have c2 := hcell 2 (by omega)
    simp only [add_spot] at c0 c1 c2
    match xs, hlen with
    | [y0, y1, y2], _ =>
      obtain ⟨o0, k0⟩ := hone_of Try.one24 0 _ rfl
      obtain ⟨o1, k1⟩ := hone_of Try.one24 1 _ rfl
      obtain ⟨o2, k2⟩ := hone_of Try.one24 2 _ rfl
      have h0 : DataW.trod enc Try.prog W 0 sp held n' 4 [v0] = some y0 := by simpa [show Try.prog.cellsOf 4 = 1 from k0] using hf 0 _ rfl
      have h1 : DataW.trod enc Try.prog W 0 sp held n' 22 [v1] = some y1 := by simpa [show Try.prog.cellsOf 22 = 1 from k1] using hf 1 _ rfl
      have h2 : DataW.trod enc Try.prog W 0 sp held n' 22 [v2] = some y2 := by simpa [show Try.prog.cellsOf 22 = 1 from k2] using hf 2 _ rfl
      obtain ⟨bb, hb, _⟩ := DataW.trod_bool Try.underlying4 h0
      obtain rfl : v0 = .bool bb := by simpa using hb
      obtain ⟨an, m, cn, l1, rfl, e1, L1⟩ := limbs_open h1
      obtain ⟨ad, m2, cd, l2, rfl, e2, L2⟩ := limbs_open h2
      exact ⟨_, _, b, o, bb, an, m, cn, ad, m2, cd, max m m2, rfl, c0, c1, c2, ⟨l1, l2, e1, e2, L1, L2, by omega, by omega, rfl⟩, rfl⟩

set_option maxRecDepth 100000 in
theorem rats_open {H : Type} {enc : TypeId × Value → H} {W : World} {sp : Nat → Bool} {held : Bool} {fuel : Nat} {v : Value} {x : DataW H × List MemPlace} (hf : DataW.trod enc Try.prog W 0 sp held fuel 32 [v] = some x) :
    ∃ a n cap f sm, v = .slice a n cap ∧ n ≤ 9223372036854775807 ∧ ∀ i, i < n → ElemAt W a i f sm := by
  rcases open_slice Try.underlying32 hf with ⟨hcs, _⟩ | ⟨ad, len, cap, m, n, D, Pl, hcs, _, hl, hm, hmm, _, hi⟩
  · simp at hcs
    exact ⟨none, 0, 0, fun _ => 0, fun _ => false, hcs, by omega, fun i hi => by omega⟩
  · simp at hcs
    have hsp : 0 < len → ad.spot = none := fun h0 => by
      obtain ⟨cs', hc, _⟩ := hi 0 (by rw [hmm]; split <;> omega)
      rw [Try.cells24] at hc
      obtain ⟨_, hl', hcell⟩ := World.cells?_some hc
      have h := hcell 0 (by omega)
      rw [List.getElem?_eq_getElem (by omega)] at h
      exact World.cell?_spot (a := ad) h
    obtain ⟨b, o, sp'⟩ := ad
    have hx : ∀ i, ∃ (q : Rat) (s : Bool), i < len → ElemAt W (some ⟨b, o, sp'⟩) i (fun _ => q) (fun _ => s) := fun i => by
      by_cases hlt : i < len
      · obtain rfl : sp' = none := hsp (by omega)
        obtain ⟨cs', hc, ht⟩ := hi i (by rw [hmm]; split <;> omega)
        rw [Try.cells24] at hc
        obtain ⟨q, s, h⟩ := elem_open hc ht
        exact ⟨q, s, fun _ => h⟩
      · exact ⟨0, false, fun h => absurd h hlt⟩
    refine ⟨some ⟨b, o, sp'⟩, len, cap, fun i => Classical.choose (hx i), fun i => Classical.choose (Classical.choose_spec (hx i)), hcs, by unfold maxLen at hm; omega, fun i hlt => ?_⟩
    exact Classical.choose_spec (Classical.choose_spec (hx i)) hlt

end Go.Proofs.Ytdpiclmjdcjajaa
