/-
  typing.preorder and typing.variables at a type of one node, which is no variable: the iterators' contracts; typing.Ground at int. No conditions.
-/
import Derived.RangeFuncNested
import Derived.RangeFuncBound
import Derived.RangeFuncCalls
import Derived.RangeFuncLeaves
import Derived.Shelf.Abstract
import Derived.Shelf.RegionOpen
import Derived.WalkKit
import Derived.OwnWalkIn
import Derived.TacticsInMore
import Derived.LoopNIn
import Derived.LoopIn
import Derived.Test.YtkobfnpkebgmjaaTpMatch2
namespace Go.Proofs.Ytkobfnpkebgmjaa
open Go.RowKit Go.Shelf Go.Deep

attribute [local go_sem] Oper.semAt_some

theorem gRound_anyDepth {F : Fence} (hd : F.depth = none) {m m' : Nat} {P : Program} {l : Nat} {f : FuncId} {tmps : Array Value} {assign body : Code} {w : World} {R : Ending → World → Prop}
    (h : RoundIn F m P l f tmps assign body w R) : RoundIn F m' P l f tmps assign body w R := ⟨h.1, fun c cs _ => h.2 c cs (fun d e => by rw [hd] at e; cases e)⟩
/-- Where no depth is asked, a round may be called from anywhere. -/
theorem gYield_anyDepth {F : Fence} (hd : F.depth = none) {m : Nat} (m' : Nat) {P : Program} {l : Nat} {args : Array Value} {W : World} {R : Ending → World → Prop} (h : YieldAt F m P l args W R) : YieldAt F m' P l args W R := by
  obtain ⟨fn, tmps, assign, body, hy, hR⟩ := h
  exact ⟨fn, tmps, assign, body, hy, gRound_anyDepth hd hR⟩

set_option maxRecDepth 100000 in
set_option maxHeartbeats 8000000 in
theorem visit_one (F : Fence) (hd : F.depth = none) (h28 : F.fn 28) (hro : F.round = none) (l n₀ : Nat) (J Jx : List Unit → World → Prop) (B0 : Nat) (hB0 : B0 < n₀)
    (hY : ∀ m W, J [] W → YieldAt F m Try.prog l #[.pointer (some ⟨B0, 0, none⟩)] W fun e W' =>
      (e = .returned (.bool true) ∧ J [()] W' ∧ Below n₀ W W') ∨ (e = .returned (.bool false) ∧ Jx [()] W'))
    (n : Nat) (W : World) (hc : W.cell? ⟨B0, 2, none⟩ = some (.slice none 0 0)) (hJ : J [] W) :
    CallsIn F n Try.prog 28 #[.pointer (some ⟨B0, 0, none⟩), .func (.yield l) #[] #[]] W fun e W' =>
      (e = .returned (.bool true) ∧ J [()] W') ∨ (e = .returned (.bool false) ∧ Jx [()] W') := by
  have hdd : ∀ k : Nat, (F.depth.isSome = true → 1 ≤ k) := fun k h => by rw [hd] at h; cases h
  have hy2 : YieldAt F (n - 1) Try.prog l #[.pointer (some ⟨B0, 0, none⟩)] W fun e W' =>
      (e = .returned (.bool true) ∧ J [()] W' ∧ W'.cell? ⟨B0, 2, none⟩ = some (.slice none 0 0)) ∨ (e = .returned (.bool false) ∧ Jx [()] W') :=
    YieldAt.mono (hY (n - 1) W hJ) fun e W' h => h.elim (fun ⟨he, hj, hb⟩ => .inl ⟨he, hj, (hb.cell (p := ⟨B0, 2, none⟩) hB0).trans hc⟩) .inr
  obtain ⟨fn, tmps, assign, body, hy, hR⟩ := hy2
  refine callsIn_of_wp Try.func28 rfl h28 ?_ hro
  simp only [Try.ntmps28, List.size_toArray, List.length_cons, List.length_nil, Nat.reduceAdd, Nat.reduceSub, Array.replicate_succ, Array.replicate_zero, List.push_toArray, List.append_toArray, List.nil_append, List.cons_append]
  gi_wp2_with ((try refine ⟨hdd _, ?_⟩); refine hR.mono ?_; clear hR; rintro e W2 (⟨rfl, hJ2, c2⟩ | ⟨rfl, hx2⟩))
  · gi_loopw [15] (fun p wr => p = .int .i64 0 ∧ J [()] wr) (fun _ _ => 0)
    case atStart => exact ⟨rfl, hJ2⟩
    case round =>
      obtain ⟨rfl, hJ3⟩ := hrel
      gi_wp2
      go_ret
      exact .inl ⟨rfl, hJ3⟩
  · gi_wp2
    go_ret
    exact .inr ⟨rfl, hx2⟩

set_option maxRecDepth 100000 in
set_option maxHeartbeats 8000000 in
theorem preorder1_one (F : Fence) (hd : F.depth = none) (h27 : F.fn 27) (h28 : F.fn 28) (hro : F.round = none) (l n₀ Bt B0 : Nat) (hB0 : B0 < n₀) (J Jx : List Unit → World → Prop) (n : Nat)
    (hY : ∀ (pre : List Unit) (x : Unit) W, J pre W → pre.length < 1 → YieldAt F (n - 1) Try.prog l #[.pointer (some ⟨B0, 0, none⟩)] W fun e W' =>
      (e = .returned (.bool true) ∧ J (pre ++ [x]) W' ∧ Below n₀ W W') ∨ (e = .returned (.bool false) ∧ Jx (pre ++ [x]) W'))
    (W : World) (hBt : W.cell? ⟨Bt, 0, none⟩ = some (.pointer (some ⟨B0, 0, none⟩))) (hc : W.cell? ⟨B0, 2, none⟩ = some (.slice none 0 0)) (h0 : J [] W) :
    CallsIn F n Try.prog 27 #[.func (.yield l) #[] #[], .pointer (some ⟨Bt, 0, none⟩)] W fun e W' => (∃ v, e = .returned v) ∧
      ((∃ ys, ys = [()] ∧ J ys W') ∨ (∃ pre, pre <+: [()] ∧ Jx pre W')) := by
  have hdd : ∀ k : Nat, (F.depth.isSome = true → 1 ≤ k) := fun k h => by rw [hd] at h; cases h
  have hp := visit_one F hd h28 hro l n₀ J Jx B0 hB0 (fun m W hj => gYield_anyDepth hd m (hY [] () W hj (by simp))) (n - 1) W hc h0
  refine callsIn_of_wp Try.func27 rfl h27 ?_ hro
  simp only [Try.ntmps27, List.size_toArray, List.length_cons, List.length_nil, Nat.reduceAdd, Nat.reduceSub, Array.replicate_succ, Array.replicate_zero, List.push_toArray, List.append_toArray, List.nil_append, List.cons_append]
  gi_wp2_with ((try refine ⟨hdd _, ?_⟩); gi_at_call 28; refine hp.mono ?_; clear hp; rintro e W1 (⟨rfl, hJ1⟩ | ⟨rfl, hx⟩))
  · go_end0
    exact ⟨⟨_, rfl⟩, .inl ⟨_, rfl, hJ1⟩⟩
  · go_end0
    exact ⟨⟨_, rfl⟩, .inr ⟨[()], ⟨[], rfl⟩, hx⟩⟩

set_option maxHeartbeats 4000000 in
/-- preorder(t): the pointer is boxed; the function value captures the box. -/
theorem preorder_in (F : Fence) (n : Nat) (h25 : F.fn 25) (hro : F.round = none) (p0 : Option Addr) (w : World) :
    CallsIn F n Try.prog 25 #[.pointer p0] w fun e w' => e = .returned (.func (.func 27) #[] #[.pointer (some ⟨w.heap.size, 0, none⟩)]) ∧ w' = w.alloc (.cells #[.pointer p0] 49) := by
  refine callsIn_of_wp Try.func25 rfl h25 ?_ hro
  simp only [Try.ntmps25, List.size_toArray, List.length_cons, List.length_nil, Nat.reduceAdd, Nat.reduceSub, Array.replicate_succ, Array.replicate_zero, List.push_toArray, List.append_toArray, List.nil_append, List.cons_append]
  gi_wp2
  go_ret
  exact ⟨rfl, rfl⟩

set_option maxHeartbeats 4000000 in
theorem variables_in (F : Fence) (n : Nat) (h21 : F.fn 21) (hro : F.round = none) (p0 : Option Addr) (w : World) :
    CallsIn F n Try.prog 21 #[.pointer p0] w fun e w' => e = .returned (.func (.func 24) #[] #[.pointer (some ⟨w.heap.size, 0, none⟩)]) ∧ w' = w.alloc (.cells #[.pointer p0] 49) := by
  refine callsIn_of_wp Try.func21 rfl h21 ?_ hro
  simp only [Try.ntmps21, List.size_toArray, List.length_cons, List.length_nil, Nat.reduceAdd, Nat.reduceSub, Array.replicate_succ, Array.replicate_zero, List.push_toArray, List.append_toArray, List.nil_append, List.cons_append]
  gi_wp2
  go_ret
  exact ⟨rfl, rfl⟩

/-- preorder(t) hands back a value that visits the one node. -/
theorem preorder_stops (F : Fence) (hd : F.depth = none) (n : Nat) (h27 : F.fn 27) (h28 : F.fn 28) (hro : F.round = none) (Bt n₀ B0 : Nat) (hB0 : B0 < n₀) (w : World) (hBt : Bt < w.heap.size) (hn₀ : n₀ ≤ w.heap.size)
    (hc : w.cell? ⟨Bt, 0, none⟩ = some (.pointer (some ⟨B0, 0, none⟩))) (hc2 : w.cell? ⟨B0, 2, none⟩ = some (.slice none 0 0)) :
    SeqStopsK F n Try.prog 27 #[.pointer (some ⟨Bt, 0, none⟩)] (fun _ : Unit => #[Value.pointer (some ⟨B0, 0, none⟩)]) (Below n₀) (fun ys => ys = [()]) (fun pre => pre <+: [()]) 1 w := fun l J Jx W hW _ _ hY h0 =>
  preorder1_one F hd h27 h28 hro l n₀ Bt B0 hB0 J Jx n hY W ((hW.cell (p := ⟨Bt, 0, none⟩) hBt).trans hc) ((hW.cell (p := ⟨B0, 2, none⟩) (show B0 < w.heap.size by omega)).trans hc2) h0

theorem gCell_of {W : World} {B : Nat} {v : Value} {t : TypeId} (h : W.heap[B]? = some (.cells #[v] t (0, 0))) : W.cell? ⟨B, 0, none⟩ = some v := by simp [World.cell?, h]
theorem gRow_of {W : World} {B : Nat} {cs : Array Value} {t : TypeId} (h : W.heap[B]? = some (.cells cs t (0, 0))) (i : Nat) : W.cell? ⟨B, i, none⟩ = cs[i]? := by simp [World.cell?, h]
theorem gCell_new (W : World) (v : Value) (t : TypeId) : (W.alloc (.cells #[v] t)).cell? ⟨W.heap.size, 0, none⟩ = some v := gCell_of (World.alloc_heap_new W _)

set_option maxRecDepth 100000 in
set_option maxHeartbeats 8000000 in
/-- variables$1 at a type of one node that is no variable: yield is called for nothing. -/
theorem variables1_none (F : Fence) (hd : F.depth = none) (hF : ∀ k, F.fn k) (hro : F.round = none) (n : Nat) (hn : 4 ≤ n) (l Bt B0 : Nat) (k : Int) (hk : (k == 4) = false) (W : World) (hBl : Bt < W.heap.size) (h0l : B0 < W.heap.size)
    (hBt : W.cell? ⟨Bt, 0, none⟩ = some (.pointer (some ⟨B0, 0, none⟩))) (hk0 : W.cell? ⟨B0, 0, none⟩ = some (.int .i64 k)) (hc2 : W.cell? ⟨B0, 2, none⟩ = some (.slice none 0 0)) :
    CallsIn F n Try.prog 24 #[.func (.yield l) #[] #[], .pointer (some ⟨Bt, 0, none⟩)] W fun e W' => (∃ v, e = .returned v) ∧ Below W.heap.size W W' := by
  have h1 : 1 ≤ n := by omega
  refine callsIn_of_wp_marks Try.func24 rfl (hF _) ?_ hro
  simp only [Try.ntmps24, List.size_toArray, List.length_cons, List.length_nil, Nat.reduceAdd, Nat.reduceSub, Array.replicate_succ, Array.replicate_zero, List.push_toArray, List.append_toArray, List.nil_append, List.cons_append]
  gi_wp2_with (gi_at_call 25; refine (preorder_in F (n - 1) (hF _) hro _ _).mono ?_; rintro e w' ⟨rfl, rfl⟩)
  have hb := gCell_new (W.alloc (.cells #[.func (.yield l) #[] #[]] 61)) (.pointer (some ⟨B0, 0, none⟩)) 49
  rw [World.size_alloc] at hb
  have hB0 : Below W.heap.size W ((W.alloc (.cells #[.func (.yield l) #[] #[]] 61)).alloc (.cells #[.pointer (some ⟨B0, 0, none⟩)] 49)) := ((Below.refl _ W).alloc (Nat.le_refl _) _).alloc (by simp) _
  refine wpIn_rangeFunc_ownF hro h1 (gf := 27) (lb := #[.pointer (some ⟨W.heap.size + 1, 0, none⟩)]) rfl (hF _) (enters_of Try.func27 (by kernel_rfl) rfl)
    (preorder_stops F hd (n - 1) (hF _) (hF _) hro (W.heap.size + 1) W.heap.size B0 h0l _ (by simp) (by simp; omega) hb ((hB0.cell (p := ⟨B0, 2, none⟩) h0l).trans hc2)) belowK_t (belowK_b (by simp; omega)) (Below.refl _ _) (fun _ => rfl)
    (fun _ V => Below W.heap.size W V)
    (fun _ _ _ => False)
    (ownFrom_below (Nat.le_refl _) (by simp; omega))
    (fun _ _ _ _ _ hs _ _ => hs)
    hB0
    (fun _ => { tmps := #[.func (.yield l) #[] #[], .pointer (some ⟨Bt, 0, none⟩), .pointer (some ⟨W.heap.size, 0, none⟩), .pointer (some ⟨B0, 0, none⟩), .pointer (some ⟨B0, 0, none⟩), .func (.func 27) #[] #[.pointer (some ⟨W.heap.size + 1, 0, none⟩)], .pointer (some ⟨B0, 0, none⟩), undef, undef, undef, undef, undef, undef, undef, undef, undef, undef, undef], defers := [] }) ?assign ?body ?done ?stop
  case assign =>
    intro l x W K hK
    gi_wp2
    exact hK
  case body =>
    rintro l2 pre x V hB _
    have hk1 : V.cell? ⟨B0, 0, none⟩ = some (.int .i64 k) := (hB.cell (p := ⟨B0, 0, none⟩) h0l).trans hk0
    gi_wp2
    exact ⟨KeepsOthers.refl _, Below.refl _ _, hB⟩
  case done =>
    rintro D ys V hD rfl hB hK
    gi_wp2
    refine ⟨by simp, .inl ⟨_, _, rfl, run_takeDeferred hK, ?_⟩⟩
    exact ⟨_, results_none rfl _ _ _, ⟨_, rfl⟩, hB.trans (belowK_b (w := W) (Nat.le_refl _) V D _ _ (by simp at hD; omega) hK rfl rfl)⟩
  case stop =>
    rintro D c pre W _ _ h _
    exact h.elim

set_option maxHeartbeats 800000 in
/-- A range over a function that calls its yield for nothing, and changes nothing that lay. -/
theorem wpIn_rangeFunc_never {F : Fence} {n : Nat} {P : Program} {g : Operand} {ps : Array Tmp} {assign body : Code} {Q : Exit → Act → World → Prop} {a : Act} {w : World}
    (hro : F.round = none) (h1 : 1 ≤ n) {gf : Nat} {lb : Array Value} (hg : a.eval g = .func (.func gf) #[] lb) (hFg : F.fn gf) (eg : ∀ args w, (callFunc gf args).run P w = .ok (.enter gf args) w)
    (hseq : ∀ (l : Nat) (W : World), Below w.heap.size w W → CallsIn F (n - 1) P gf (#[.func (.yield l) #[] #[]] ++ lb) W fun e W' => (∃ v, e = .returned v) ∧ Below W.heap.size W W')
    (hdone : ∀ (D : Nat) (W : World), w.heap.size ≤ D → Below w.heap.size w W → W.heap[D]? = some (.deferred (some [])) → Q .normal { a with defers := { target := .collected D, args := #[] } :: a.defers } W) :
    (Code.rangeFunc g ps assign body).wpIn F n P Q a w := by
  refine wpIn_rangeFunc ?_
  intro fn hfn
  rw [hro]
  obtain ⟨r, hrec⟩ : ∃ r : Loop, r = { state := .ready, pending := none, fn, tmps := a.tmps, params := ps, assign, body, defers := w.heap.size } := ⟨_, rfl⟩
  obtain ⟨W1, hW1⟩ : ∃ W1, (w.alloc (.deferred (some []))).alloc (.loop r) = W1 := ⟨_, rfl⟩
  have hL1 : W1.heap[w.heap.size + 1]? = some (.loop r) := by
    rw [← hW1]; have := World.alloc_heap_new (w.alloc (.deferred (some []))) (.loop r); rwa [World.size_alloc] at this
  have hD1 : W1.heap[w.heap.size]? = some (.deferred (some [])) := by
    rw [← hW1]; exact (Below.heap_alloc _ _ _ (by simp)).trans (World.alloc_heap_new w _)
  have hA2 : Below w.heap.size w W1 := by
    rw [← hW1]; exact ((Below.refl _ w).alloc (Nat.le_refl _) _).alloc (by simp) _
  have hsz : W1.heap.size = w.heap.size + 2 := by rw [← hW1]; simp
  have hrun : (Instr.enterLoop fn a.tmps ps assign body none).run P w = .ok (w.heap.size + 1, [{ target := .collected w.heap.size, args := #[] }]) W1 := by
    rw [← hW1, hrec]; exact run_enterLoop_outer _ _ _ _ _
  have hpend : r.pending = none := by rw [hrec]
  have hbusy : r.state ≠ .busy := by rw [hrec]; simp
  clear hW1 hrec
  refine ⟨w.heap.size + 1, [{ target := .collected w.heap.size, args := #[] }], W1, { target := .fn (.func gf) lb, args := #[.func (.yield (w.heap.size + 1)) #[] #[]] }, W1, gf,
    #[.func (.yield (w.heap.size + 1)) #[] #[]] ++ lb, W1, hrun, ?_, ?_, ?_, fun _ => h1, ?_⟩
  · simp only [resolve, hg]
    simp [go_sem]
  · intro f' hf'
    simp [Target.leads] at hf'
    subst hf'
    exact hFg
  · simp [invoke, go_sem, eg]
  · refine (hseq (w.heap.size + 1) W1 hA2).mono ?_
    rintro e W2 ⟨⟨v, rfl⟩, hB⟩
    have hl2 := (hB.block (w.heap.size + 1) (by omega)).trans hL1
    have hd2 := (hB.block w.heap.size (by omega)).trans hD1
    refine ⟨none, _, by have := run_endLoop (P := P) hl2 hbusy; rw [hpend] at this; exact this, ?_⟩
    refine hdone w.heap.size _ (Nat.le_refl _) ?_ ((World.putObj_heap_other (by omega)).trans hd2)
    exact (hA2.trans (hB.mono (by omega))).trans (belowK_b (w := w) (Nat.le_refl _) W2 (w.heap.size + 1) _ _ (by omega) hl2 rfl rfl)

set_option maxRecDepth 100000 in
set_option maxHeartbeats 8000000 in
theorem ground_in (F : Fence) (hd : F.depth = none) (hF : ∀ k, F.fn k) (hro : F.round = none) (n : Nat) (hn : 7 ≤ n) (w : World) :
    CallsIn F n Try.prog 16 #[.agg #[.int .i64 1, .int .i64 0, .slice none 0 0]] w fun e w' => e = .returned (.bool true) ∧ Below w.heap.size w w' := by
  have h1 : 1 ≤ n := by omega
  refine callsIn_of_wp_marks Try.func16 rfl (hF _) ?_ hro
  simp only [Try.ntmps16, List.size_toArray, List.length_cons, List.length_nil, Nat.reduceAdd, Nat.reduceSub, Array.replicate_succ, Array.replicate_zero, List.push_toArray, List.append_toArray, List.nil_append, List.cons_append]
  gi_wp2_with (gi_at_call 21; refine (variables_in F (n - 1) (hF _) hro _ _).mono ?_; rintro e w' ⟨rfl, rfl⟩)
  have hb := gCell_new ((w.alloc (.cells #[.int .i64 1, .int .i64 0, .slice none 0 0] 25)).alloc (.cells #[.bool false] 4)) (.pointer (some ⟨w.heap.size, 0, none⟩)) 49
  simp only [World.size_alloc] at hb
  have hrow : ∀ i : Nat, (w.alloc (.cells #[.int .i64 1, .int .i64 0, .slice none 0 0] 25)).cell? ⟨w.heap.size, i, none⟩ = #[Value.int .i64 1, .int .i64 0, .slice none 0 0][i]? := fun i => gRow_of (World.alloc_heap_new w _) i
  have hA : Below (w.heap.size + 1) (w.alloc (.cells #[.int .i64 1, .int .i64 0, .slice none 0 0] 25)) (((w.alloc (.cells #[.int .i64 1, .int .i64 0, .slice none 0 0] 25)).alloc (.cells #[.bool false] 4)).alloc (.cells #[.pointer (some ⟨w.heap.size, 0, none⟩)] 49)) := ((Below.refl _ _).alloc (by simp) _).alloc (by simp) _
  have k0 := (hA.cell (p := ⟨w.heap.size, 0, none⟩) (Nat.lt_succ_self _)).trans (hrow 0)
  have k2 := (hA.cell (p := ⟨w.heap.size, 2, none⟩) (Nat.lt_succ_self _)).trans (hrow 2)
  have hr : (((w.alloc (.cells #[.int .i64 1, .int .i64 0, .slice none 0 0] 25)).alloc (.cells #[.bool false] 4)).alloc (.cells #[.pointer (some ⟨w.heap.size, 0, none⟩)] 49)).heap[w.heap.size + 1]? = some (.cells #[.bool false] 4) := by
    have h := World.alloc_heap_new (w.alloc (.cells #[.int .i64 1, .int .i64 0, .slice none 0 0] 25)) (.cells #[.bool false] 4)
    rw [World.size_alloc] at h
    exact (Below.heap_alloc _ _ _ (by simp)).trans h
  have hB0 : Below w.heap.size w (((w.alloc (.cells #[.int .i64 1, .int .i64 0, .slice none 0 0] 25)).alloc (.cells #[.bool false] 4)).alloc (.cells #[.pointer (some ⟨w.heap.size, 0, none⟩)] 49)) := (((Below.refl _ w).alloc (Nat.le_refl _) _).alloc (by simp) _).alloc (by simp; omega) _
  have hsz : (((w.alloc (.cells #[.int .i64 1, .int .i64 0, .slice none 0 0] 25)).alloc (.cells #[.bool false] 4)).alloc (.cells #[.pointer (some ⟨w.heap.size, 0, none⟩)] 49)).heap.size = w.heap.size + 3 := by simp
  obtain ⟨W0, hW0⟩ : ∃ W0, (((w.alloc (.cells #[.int .i64 1, .int .i64 0, .slice none 0 0] 25)).alloc (.cells #[.bool false] 4)).alloc (.cells #[.pointer (some ⟨w.heap.size, 0, none⟩)] 49)) = W0 := ⟨_, rfl⟩
  rw [hW0] at hb k0 k2 hr hB0 hsz ⊢
  clear hW0 hA hrow
  refine wpIn_rangeFunc_never hro h1 (gf := 24) (lb := #[.pointer (some ⟨w.heap.size + 1 + 1, 0, none⟩)]) rfl (hF _) (enters_of Try.func24 (by kernel_rfl) rfl)
    (fun l W hB => variables1_none F hd hF hro (n - 1) (by omega) l (w.heap.size + 1 + 1) w.heap.size 1 (by decide) W (by have := hB.size; omega) (by have := hB.size; omega)
      ((hB.cell (p := ⟨w.heap.size + 1 + 1, 0, none⟩) (show w.heap.size + 1 + 1 < W0.heap.size by omega)).trans hb) ((hB.cell (p := ⟨w.heap.size, 0, none⟩) (show w.heap.size < W0.heap.size by omega)).trans k0) ((hB.cell (p := ⟨w.heap.size, 2, none⟩) (show w.heap.size < W0.heap.size by omega)).trans k2)) ?done
  rintro D W hD hB hK
  have hr1 := (hB.block (w.heap.size + 1) (by omega)).trans hr
  have hc1 := gCell_of hr1
  have hf1 : W.frozen? ⟨w.heap.size + 1, 0, none⟩ = false := by simp [World.frozen?, hr1]
  gi_wp2
  have hK' := (KeepsOthers.setCell W ⟨w.heap.size + 1, 0, none⟩ (.bool true)).same D _ hK rfl
  refine ⟨by simp, .inl ⟨_, _, rfl, run_takeDeferred hK', ?_⟩⟩
  have hc5 := cell_kept (World.cell?_setCell_same' W ⟨w.heap.size + 1, 0, none⟩ (.bool true) (by rw [hc1]; rfl)) (grownBy_putObj' _ D (.deferred none)) (fun r e => by cases e; exact ⟨_, hK', rfl⟩)
  refine ⟨.bool true, ?_, rfl, ((hB0.trans (hB.mono (by omega))).setCell (p := ⟨w.heap.size + 1, 0, none⟩) (show w.heap.size ≤ w.heap.size + 1 by omega) _).trans (belowK_b (w := w) (Nat.le_refl _) _ D _ _ (by omega) hK' rfl rfl)⟩
  simp [results, Try.f16, go_sem, hc5]

theorem ground_int (w : World) : Calls Try.prog 16 #[.agg #[.int .i64 1, .int .i64 0, .slice none 0 0]] w (fun e w' => e = .returned (.bool true) ∧ Below w.heap.size w w') := (callsIn_wide (n := 8)).1 (ground_in Fence.wide rfl (fun _ => trivial) rfl 8 (by decide) w)
end Go.Proofs.Ytkobfnpkebgmjaa
