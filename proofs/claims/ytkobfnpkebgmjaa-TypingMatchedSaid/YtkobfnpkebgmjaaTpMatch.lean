/-
  The walks of typing's matcher: matchVariable, match. Condition: what is compared lies in older memory.
-/
import Derived.Test.YtkobfnpkebgmjaaTpEqual
import Derived.Deep.LoopGhost
namespace Go.Proofs.Ytkobfnpkebgmjaa
open Go.RowKit Go.Deep

/-- A pointer to a type in older memory, or none. -/
def PtrR (W0 : World) (n : Nat) (v : Value) : Option Tp → Prop
  | none => v = .pointer none
  | some x => ∃ b o t0 t1 t2, v = .pointer (some ⟨b, o, none⟩) ∧ W0.cell? ⟨b, o, none⟩ = some t0 ∧ W0.cell? ⟨b, o + 1, none⟩ = some t1 ∧ W0.cell? ⟨b, o + 2, none⟩ = some t2 ∧ TpC W0.cell? n [t0, t1, t2] x
theorem PtrR.one {W0 : World} {n : Nat} {v : Value} {o : Option Tp} (h : PtrR W0 n v o) : v.oneCell' = true := by
  cases o with
  | none => rw [show v = .pointer none from h]; rfl
  | some x => obtain ⟨b, o, _, _, _, rfl, _⟩ := h; rfl
def FoundV (W0 w : World) (p n : Nat) (vf : Value) (F : List (Option Tp)) : Prop :=
  ∃ xs, w.ownsRow (p + 1) 49 1 vf F.length xs ∧ ∀ i (h : i < F.length), ∃ v, xs[i]? = some v ∧ PtrR W0 n v F[i]
theorem FoundV.nil (W0 w : World) (p n : Nat) : FoundV W0 w p n (.slice none 0 0) [] := ⟨[], World.ownsRow_nil _ _ _ _, fun i h => absurd h (by simp)⟩
theorem FoundV.own {W0 w : World} {p n : Nat} {vf : Value} {F : List (Option Tp)} (h : FoundV W0 w p n vf F) : ∀ k, vf.ownBlock = some k → p + 1 ≤ k ∧ k < w.heap.size := by
  obtain ⟨xs, ho, _⟩ := h
  exact ho.lt
theorem FoundV.kept {W0 w w' : World} {p n : Nat} {vf : Value} {F : List (Option Tp)} {row : Option Nat} (h : FoundV W0 w p n vf F) (hg : w.grownBy w' row) (hne : vf.ownBlock = none ∨ vf.ownBlock ≠ row) : FoundV W0 w' p n vf F := by
  obtain ⟨xs, ho, he⟩ := h
  exact ⟨xs, ho.kept hg hne, he⟩
theorem FoundV.below {W0 w w' : World} {p n : Nat} {vf : Value} {F : List (Option Tp)} (h : FoundV W0 w p n vf F) (hb : Below w.heap.size w w') : FoundV W0 w' p n vf F :=
  h.kept (row := none) ⟨hb.os, hb.tape, hb.output, hb.size, fun k hk _ => hb.block k hk⟩ (by cases vf.ownBlock <;> simp)
theorem FoundV.shape {W0 w : World} {p n : Nat} {vf : Value} {F : List (Option Tp)} (h : FoundV W0 w p n vf F) : ∃ a c, vf = .slice a F.length c ∧ F.length ≤ c ∧ c ≤ 9223372036854775807 ∧ (0 < F.length → ∃ g, a = some ⟨g, 0, none⟩) := by
  obtain ⟨xs, ho, he⟩ := h
  rcases ho.2 with ⟨rfl, hn⟩ | ⟨g, cap, cur, rfl, _, _, hc, hm, _, _⟩
  · rw [hn]; exact ⟨none, 0, rfl, Nat.le_refl _, by omega, fun h => by omega⟩
  · exact ⟨_, cap, rfl, hc, by unfold maxLen at hm; omega, fun _ => ⟨g, rfl⟩⟩
theorem FoundV.cell {W0 w : World} {p n g c : Nat} {F : List (Option Tp)} (h : FoundV W0 w p n (.slice (some ⟨g, 0, none⟩) F.length c) F) {i : Nat} (hi : i < F.length) : ∃ v, w.cell? ⟨g, i, none⟩ = some v ∧ w.frozen? ⟨g, i, none⟩ = false ∧ PtrR W0 n v F[i] := by
  obtain ⟨xs, ho, he⟩ := h
  obtain ⟨v, hv, hp⟩ := he i hi
  exact ⟨v, by rw [World.ownsRow.cellAt ho i (by omega)]; exact hv, World.ownsRow.frozenAt ho i, hp⟩
theorem FoundV.set {W0 w : World} {p n g c : Nat} {F : List (Option Tp)} (h : FoundV W0 w p n (.slice (some ⟨g, 0, none⟩) F.length c) F) {i : Nat} (hi : i < F.length) {v : Value} {o : Option Tp} (hv : PtrR W0 n v o) :
    FoundV W0 (w.setCell ⟨g, i, none⟩ v) p n (.slice (some ⟨g, 0, none⟩) F.length c) (F.set i o) := by
  obtain ⟨xs, ho, he⟩ := h
  have hx : xs.length = F.length * 1 := ho.1
  refine ⟨xs.set i v, by rw [List.length_set]; exact (World.ownsRow.stored ho i v).1, fun j hj => ?_⟩
  rw [List.length_set] at hj
  by_cases e : j = i
  · subst e
    refine ⟨v, by rw [List.getElem?_set_self (by omega)], ?_⟩
    rw [List.getElem_set_self]
    exact hv
  · obtain ⟨u, hu, hp⟩ := he j hj
    refine ⟨u, by rw [List.getElem?_set_ne (fun h => e h.symm)]; exact hu, ?_⟩
    rw [List.getElem_set_ne (fun h => e h.symm)]
    exact hp
theorem FoundV.append (W0 w : World) (p n : Nat) (ty : TypeId) (vf : Value) (F : List (Option Tp)) (hO : FoundV W0 w p n vf F) (a : Addr) (c : Nat) (u : Value) (o : Option Tp) (hu : PtrR W0 n u o)
    (hnews : ∀ j y, [u][j]? = some y → w.cell? (a.add j) = some y) (hl : F.length ≤ 1000) (hB : p + 1 ≤ w.heap.size) :
    ∃ v' w', (Builtin.append_ #[50, 50] ty #[vf, .slice (some a) 1 c]).run Try.prog w = .ok v' w' ∧ FoundV W0 w' p n v' (F ++ [o]) ∧ w.grownBy w' vf.ownBlock := by
  have hinfo : (Try.prog.info? 49).map (fun i => (i.zero, i.size, i.bytes)) = some (some (.pointer none), 1, 8) := by kernel_rfl
  obtain ⟨i, hi, hzz⟩ := Option.map_eq_some_iff.1 hinfo
  simp only [Prod.mk.injEq] at hzz
  obtain ⟨hz, hs, hby⟩ := hzz
  have ht : Try.prog.underlying 50 = some (.slice 49) := by kernel_rfl
  obtain ⟨xs, ho, he⟩ := hO
  obtain ⟨v', w', hr, h2, h3, h4⟩ := run_append_new (P := Try.prog) w (p + 1) 50 ty 49 i _ 1 8 ht hi hz hs hby rfl (by omega) vf F.length xs ho a 1 c [u] rfl hnews (fun y hy => by
    obtain rfl : y = u := by simpa using hy
    exact hu.one) (by omega) (by unfold maxLen; omega) (by omega) hB
  refine ⟨v', w', hr, ⟨xs ++ [u], by simpa using h2, fun j hj => ?_⟩, h3⟩
  have hxs : xs.length = F.length := by have := ho.1; omega
  rw [List.length_append, List.length_singleton] at hj
  by_cases hlt : j < F.length
  · obtain ⟨v, hv, hp⟩ := he j hlt
    exact ⟨v, by rw [List.getElem?_append_left (by omega)]; exact hv, by rw [List.getElem_append_left hlt]; exact hp⟩
  · obtain rfl : j = F.length := by omega
    refine ⟨u, by rw [List.getElem?_append_right (by omega), hxs]; simp, ?_⟩
    have e : (F ++ [o])[F.length] = o := by simp
    rw [e]
    exact hu
theorem wpList_append_ptr {ops : Array Oper} {rest : List Oper} {o : Oper} {a : Act} {Q : Exit → Act → World → Prop} {w : World} (hgd : o.guard = none) (s x : Operand)
    (ho : o.op = .call { callee := .builtin .append, args := #[s, x], argTypes := #[50, 50] }) (W0 : World) (p n : Nat) (vf : Value) (F : List (Option Tp)) (hs : a.eval s = vf) (hO : FoundV W0 w p n vf F)
    (ad : Addr) (c : Nat) (u : Value) (y : Option Tp) (hx : a.eval x = .slice (some ad) 1 c) (hu : PtrR W0 n u y) (hnews : ∀ j z, [u][j]? = some z → w.cell? (ad.add j) = some z) (hl : F.length ≤ 1000) (hB : p + 1 ≤ w.heap.size)
    (h : ∀ v' w', FoundV W0 w' p n v' (F ++ [y]) → w.grownBy w' vf.ownBlock → wpList Try.prog ops Q rest (a.put o.dst v') w') : wpList Try.prog ops Q (o :: rest) a w := by
  refine wpList_plain hgd fun K hK => ?_
  obtain ⟨v', w', hrun, h2, h3⟩ := FoundV.append W0 w p n o.type vf F hO ad c u y hu hnews hl hB
  unfold Oper.wp execOp
  simp only [ho, resolve, invoke, builtin, Sem.run_bind, Sem.run_pure, Result.andThen_ok, List.map_toArray, List.map_cons, List.map_nil, hs, hx, hrun]
  exact hK _ _ (h v' w' h2 h3)
def FoundR (W0 w : World) (p n : Nat) (F : List (Option Tp)) : Prop := ∃ vf, BoxV w W0.heap.size p 52 [vf] ∧ FoundV W0 w p n vf F

set_option maxRecDepth 100000 in
set_option maxHeartbeats 8000000 in
theorem matchVar_any (W0 : World) (p n b o : Nat) (x : Tp) (v : Int) (F : List (Option Tp)) (w : World) (hx : PtrR W0 n (.pointer (some ⟨b, o, none⟩)) (some x)) (hb : Below W0.heap.size W0 w) (hF : FoundR W0 w p n F) (hl : F.length ≤ 101) :
    Calls Try.prog 23 #[.pointer (some ⟨p, 0, none⟩), .int .i64 v, .pointer (some ⟨b, o, none⟩)] w (fun e w' => e = .returned (.bool (mv v x F).1) ∧ Below W0.heap.size W0 w' ∧ FoundR W0 w' p n (mv v x F).2) := by
  by_cases hv : v < 0
  · have e1 : mv v x F = (false, F) := by unfold mv; rw [if_pos (.inl hv)]
    rw [e1]
    have HA := Lib.hid (And.intro hb hF)
    clear hb hF e1 hx
    go_enter Try.func23, Try.ntmps23
    go_wp2_with fail
    go_ret
    exact ⟨rfl, HA.out.1, HA.out.2⟩
  by_cases hv2 : 100 < v
  · have e1 : mv v x F = (false, F) := by unfold mv; rw [if_pos (.inr hv2)]
    rw [e1]
    have HA := Lib.hid (And.intro hb hF)
    clear hb hF e1 hx
    go_enter Try.func23, Try.ntmps23
    go_wp2_with fail
    go_ret
    exact ⟨rfl, HA.out.1, HA.out.2⟩
  obtain ⟨vN, rfl⟩ : ∃ q : Nat, v = (q : Int) := ⟨v.toNat, by omega⟩
  obtain ⟨R, hR⟩ : ∃ R, mv vN x F = R := ⟨_, rfl⟩
  rw [hR]
  have HA := Lib.hid (And.intro hb (And.intro hF (And.intro hx hR)))
  clear hb hF hx hR
  have hv2' : ¬ (100 : Int) < (vN : Int) := hv2
  go_enter Try.func23, Try.ntmps23
  go_wp2_with fail
  go_loopg [] (vN + 1 - F.length) (fun g wr => ∃ j : Nat, g = vN + 1 - (F.length + j) ∧ (j = 0 ∨ F.length + j ≤ vN + 1) ∧ Below W0.heap.size W0 wr ∧ FoundR W0 wr p n (F ++ List.replicate j none))
  case atStart => exact ⟨0, rfl, .inl rfl, HA.out.1, by simpa using HA.out.2.1⟩
  case round =>
    obtain ⟨j, rfl, hj, hb, vf, hP, hV⟩ := hrel
    obtain ⟨a, c, rfl, hc1, hc2, hc3⟩ := hV.shape
    have hlen : (F ++ List.replicate j none).length = F.length + j := by simp
    rw [hlen] at hc1 hP hV hc3
    have m0 := hP.cell 0 (by simp)
    by_cases hlt : F.length + j ≤ vN
    · have hlt' : ((F.length + j : Nat) : Int) ≤ (vN : Int) := by omega
      have hpW : W0.heap.size ≤ p ∧ p < wr.heap.size := hP.block
      have hbA := below_alloc1 wr (.cells #[.pointer none] 49)
      have hVA := hV.below hbA
      have hPA := hP.below hbA
      have hbW := below_next' hb hbA
      have hBn := BoxV.new wr wr.heap.size 49 (Nat.le_refl _) [.pointer none]
      have hnews : ∀ (j : Nat) (z : Value), [Value.pointer none][j]? = some z → (wr.alloc (.cells #[.pointer none] 49)).cell? ((⟨wr.heap.size, 0, none⟩ : Addr).add j) = some z := fun j z hz => by
        rw [add_spot, Nat.zero_add, hBn.cell j (by
          rcases Nat.lt_or_ge j 1 with h | h
          · exact h
          · rw [List.getElem?_eq_none (by simpa using h)] at hz; cases hz)]
        exact hz
      have HB := Lib.hid (And.intro hVA (And.intro hPA (And.intro hbW (And.intro hnews (And.intro hV.own hpW)))))
      have hlG : Hid ((F ++ List.replicate j none).length ≤ 1000) := Lib.hid (by rw [hlen]; omega)
      have hlA : Hid ((F ++ List.replicate j none ++ [none]).length = F.length + j + 1) := Lib.hid (by rw [List.length_append, hlen, List.length_singleton])
      clear hVA hPA hbW hnews hb hP hV hbA hBn hlen hc1 hc2 hc3
      have hB8 : Hid (p + 1 ≤ (wr.alloc (.cells #[.pointer none] 49)).heap.size) := Lib.hid (by simp; omega)
      go_wp2_with (at_builtin; refine wpList_append_ptr rfl _ _ rfl W0 p n _ (F ++ List.replicate j none) rfl HB.out.1 ⟨wr.heap.size, 0, none⟩ 1 (.pointer none) none rfl rfl HB.out.2.2.2.1 hlG.out hB8.out ?_; intro v7 w7 hV7 hg7; obtain ⟨a7, c7, hs7, hc7, hc8, hc9⟩ := hV7.shape; rw [hlA.out] at hs7; subst hs7; clear hc7 hc8 hc9; have hP7 := HB.out.2.1.kept hg7 (fun e => absurd (HB.out.2.2.2.2.1 p e.symm).1 (Nat.not_succ_le_self p)); have e7 := hP7.cell 0 (by simp); have f7 := hP7.frozen 0; have H7 := Lib.hid (And.intro hV7 (And.intro hg7 hP7)); clear hV7 hg7 hP7)
      have hG := grown_set w7 p 0 (.slice a7 (F.length + j + 1) c7)
      have hV9 := H7.out.1.kept hG (by
        cases ho : (Value.slice a7 (F.length + j + 1) c7).ownBlock with
        | none => exact .inl rfl
        | some q => exact .inr (fun e => by have := (H7.out.1.own q ho).1; have := Option.some.inj e; omega))
      have hP9 : BoxV _ W0.heap.size p 52 [.slice a7 (F.length + j + 1) c7] := boxV_setT H7.out.2.2 0 (.slice a7 (F.length + j + 1) c7)
      have hb9 := (HB.out.2.2.1.grown H7.out.2.1 HB.out.2.2.1.size (fun q hq => by have := (HB.out.2.2.2.2.1 q hq).1; omega)).grown hG (Nat.le_trans HB.out.2.2.1.size H7.out.2.1.size) (fun q hq => by cases hq; exact HB.out.2.2.2.2.2.1)
      have HE := Lib.hid (And.intro hb9 (And.intro hP9 hV9))
      clear hG hV9 hP9 hb9
      go_roundg (vN + 1 - (F.length + (j + 1)))
      case measure => omega
      case rel => exact ⟨j + 1, rfl, .inr (by omega), HE.out.1, _, HE.out.2.1, by rw [List.replicate_succ', ← List.append_assoc]; exact HE.out.2.2⟩
    · have hlt' : ¬ ((F.length + j : Nat) : Int) ≤ (vN : Int) := by omega
      obtain rfl : j = vN + 1 - F.length := by omega
      obtain ⟨L, hL⟩ : ∃ L, F.length + (vN + 1 - F.length) = L := ⟨_, rfl⟩
      have hvL : vN < L := by omega
      rw [hL] at hlen hP hV hc1 hc3 hlt'
      obtain ⟨g, rfl⟩ := hc3 (by omega)
      have hgp := hV.own g rfl
      have hpW : W0.heap.size ≤ p ∧ p < wr.heap.size := hP.block
      have hV' := hV
      rw [← hlen] at hV'
      obtain ⟨v, k0, k1, hpv⟩ := hV'.cell (i := vN) (by omega)
      obtain ⟨x0, hx0⟩ : ∃ y, (F ++ List.replicate (vN + 1 - F.length) none)[vN]'(by omega) = y := ⟨_, rfl⟩
      rw [hx0] at hpv
      have hGet : (F ++ List.replicate (vN + 1 - F.length) none)[vN]? = some x0 := by rw [List.getElem?_eq_getElem (by omega), hx0]
      have hvv : (vN : Int) < (L : Int) := by omega
      have hxx := HA.out.2.2.1
      obtain ⟨b0, o0, t0', t1', t2', e0, d0, d1, d2, hTx⟩ := hxx
      simp only [Value.pointer.injEq, Option.some.injEq, Addr.mk.injEq, and_true] at e0
      obtain ⟨rfl, rfl⟩ := e0
      have d0w := cell_below hb d0
      have d1w := cell_below hb d1
      have d2w := cell_below hb d2
      clear hj hlt' hc1 hc2 hc3
      cases x0 with
      | none =>
        obtain rfl : v = .pointer none := hpv
        have hR : R = (true, (F ++ List.replicate (vN + 1 - F.length) none).set vN (some x)) := by
          rw [← HA.out.2.2.2]
          unfold mv
          rw [if_neg (by omega), Int.toNat_natCast, hGet]
        have hS := hV'.set (i := vN) (by omega) (o := some x) (v := .pointer (some ⟨b, o, none⟩)) HA.out.2.2.1
        rw [hlen] at hS
        have hG := grown_set wr g vN (.pointer (some ⟨b, o, none⟩))
        have hb9 := hb.grown hG hb.size (fun q hq => by cases hq; omega)
        have hP9 := hP.kept hG (by simp; omega)
        have HB := Lib.hid (And.intro hS (And.intro hb9 (And.intro hP9 (And.intro hR hTx))))
        clear hS hG hP9 hR hTx hV hV' hP hb hGet hx0
        go_wp2_with fail
        have m9 := HB.out.2.2.1.cell 0 (by simp)
        have k9 := World.cell?_setCell_same' wr ⟨g, vN, none⟩ (.pointer (some ⟨b, o, none⟩)) (by rw [k0]; rfl)
        have n0 := cell_below HB.out.2.1 d0
        have n1 := cell_below HB.out.2.1 d1
        have n2 := cell_below HB.out.2.1 d2
        clear d0 d1 d2 d0w d1w d2w k0 k1 m0
        generalize wr.setCell ⟨g, vN, none⟩ (.pointer (some ⟨b, o, none⟩)) = W9 at HB m9 k9 n0 n1 n2 ⊢
        go_wp2_with fail
        go_still_tail 12, (by kernel_rfl)
        change wpList _ _ _ _ _ W9.drew
        have hbd : Below W9.heap.size W9 W9.drew := (Below.refl _ W9).drew
        have hTx2 := HB.out.2.2.2.2.kept fun _ _ h => cell_below (below_next' HB.out.2.1 hbd) h
        have hcall := equal_all n [t0', t1', t2'] [t0', t1', t2'] x x W9.drew hTx2 hTx2
        have HC := Lib.hid (And.intro hcall (And.intro (below_next' HB.out.2.1 hbd) (And.intro (HB.out.2.2.1.below hbd) (HB.out.1.below hbd))))
        clear hcall hTx2 hbd m9 k9 n0 n1 n2
        generalize W9.drew = W10 at HC ⊢
        go_wp2_with fail
        refine HC.out.1.mono ?_
        rintro e w11 ⟨rfl, hb11⟩
        have hxx : tpEq x x = true := tpEq_true.2 rfl
        rw [hxx]
        have HF := Lib.hid (And.intro (below_next' HC.out.2.1 hb11) (And.intro (HC.out.2.2.1.below hb11) (HC.out.2.2.2.below hb11)))
        clear hb11 hxx
        go_wp2_with fail
        go_ret
        rw [HB.out.2.2.2.1]
        exact ⟨rfl, HF.out.1, _, HF.out.2.1, HF.out.2.2⟩
      | some y =>
        obtain ⟨b2, o2, s0, s1, s2, rfl, f0, f1, f2, hTy⟩ := hpv
        have hR : R = (tpEq y x, F ++ List.replicate (vN + 1 - F.length) none) := by
          rw [← HA.out.2.2.2]
          unfold mv
          rw [if_neg (by omega), Int.toNat_natCast, hGet]
        have f0w := cell_below hb f0
        have f1w := cell_below hb f1
        have f2w := cell_below hb f2
        have HB := Lib.hid (And.intro hV (And.intro hb (And.intro hP (And.intro hR (And.intro hTx hTy)))))
        clear hV hV' hP hb hR hTx hTy hGet hx0 d0 d1 d2 f0 f1 f2 k1
        go_wp2_with fail
        go_still_tail 12, (by kernel_rfl)
        change wpList _ _ _ _ _ wr.drew
        have hbd : Below wr.heap.size wr wr.drew := (Below.refl _ wr).drew
        have hTx2 := HB.out.2.2.2.2.1.kept fun _ _ h => cell_below (below_next' HB.out.2.1 hbd) h
        have hTy2 := HB.out.2.2.2.2.2.kept fun _ _ h => cell_below (below_next' HB.out.2.1 hbd) h
        have hcall := equal_all n [s0, s1, s2] [t0', t1', t2'] y x wr.drew hTy2 hTx2
        have HC := Lib.hid (And.intro hcall (And.intro (below_next' HB.out.2.1 hbd) (And.intro (HB.out.2.2.1.below hbd) (HB.out.1.below hbd))))
        clear hcall hTx2 hTy2 hbd m0 k0 d0w d1w d2w f0w f1w f2w
        generalize wr.drew = W10 at HC ⊢
        go_wp2_with fail
        refine HC.out.1.mono ?_
        rintro e w11 ⟨rfl, hb11⟩
        obtain ⟨r, hr⟩ : ∃ r, tpEq y x = r := ⟨_, rfl⟩
        have hRr := HB.out.2.2.2.1
        rw [hr] at hRr ⊢
        have HF := Lib.hid (And.intro (below_next' HC.out.2.1 hb11) (And.intro (HC.out.2.2.1.below hb11) (And.intro (HC.out.2.2.2.below hb11) hRr)))
        clear hb11 hr hRr
        go_wp2_with fail
        go_ret
        rw [HF.out.2.2.2]
        exact ⟨rfl, HF.out.1, _, HF.out.2.1, HF.out.2.2.1⟩
mutual
theorem mt_length : ∀ (t x : Tp) (F : List (Option Tp)), F.length ≤ 101 → (mt t x F).2.length ≤ 101
  | .mk k u us, .mk k' u' us', F, h => by
    rw [mt]
    split
    · exact mv_length _ _ _ h
    · split
      · exact mtL_length us us' F h
      · exact h
theorem mtL_length : ∀ (ts xs : List Tp) (F : List (Option Tp)), F.length ≤ 101 → (mtL ts xs F).2.length ≤ 101
  | [], _, F, h => by rw [mtL]; exact h; simp
  | _ :: _, [], F, h => by rw [mtL]; exact h; simp
  | t :: ts, x :: xs, F, h => by
    rw [mtL]
    split
    · exact mtL_length ts xs _ (mt_length t x F h)
    · exact mt_length t x F h
end
theorem PtrR.le {W0 : World} {n m : Nat} {v : Value} {o : Option Tp} (h : PtrR W0 n v o) (hm : n ≤ m) : PtrR W0 m v o := by
  cases o with
  | none => exact h
  | some x =>
    obtain ⟨b, o, t0, t1, t2, e, c0, c1, c2, ht⟩ := h
    exact ⟨b, o, t0, t1, t2, e, c0, c1, c2, ht.le hm⟩
theorem TpsC.ptr {W0 : World} {n : Nat} {a : Option Addr} {l : List Tp} {cap i : Nat} (h : TpsC W0.cell? n (.slice a l.length cap) l) (hi : i < l.length) : ∃ b o, a = some ⟨b, o, none⟩ ∧ PtrR W0 n (.pointer (some ⟨b, o + i * 3, none⟩)) (some l[i]) := by
  obtain ⟨b, o, t0, t1, t2, e, c0, c1, c2, ht⟩ := h.cells hi
  exact ⟨b, o, e, b, o + i * 3, t0, t1, t2, rfl, c0, c1, c2, ht⟩

set_option maxRecDepth 100000 in
set_option maxHeartbeats 8000000 in
theorem match_any (W0 : World) (p N : Nat) : ∀ (n m : Nat), m ≤ N → ∀ (b o b2 o2 : Nat) (T x : Tp) (F : List (Option Tp)) (w : World), PtrR W0 n (.pointer (some ⟨b, o, none⟩)) (some T) → PtrR W0 m (.pointer (some ⟨b2, o2, none⟩)) (some x) → Below W0.heap.size W0 w → FoundR W0 w p N F → F.length ≤ 101 →
    Calls Try.prog 20 #[.pointer (some ⟨p, 0, none⟩), .pointer (some ⟨b, o, none⟩), .pointer (some ⟨b2, o2, none⟩)] w (fun e w' => e = .returned (.bool (mt T x F).1) ∧ Below W0.heap.size W0 w' ∧ FoundR W0 w' p N (mt T x F).2) := by
  intro n
  induction n with
  | zero => intro m _ b o b2 o2 T x F w h; obtain ⟨_, _, _, _, _, _, _, _, _, h⟩ := h; exact h.elim
  | succ n ih =>
    intro m hm b o b2 o2 T x F w hT hX hb hF hl
    have hXN := hX.le hm
    obtain ⟨k, u, us⟩ := T
    obtain ⟨b', o', t0, t1, t2, e0, c0, c1, c2, hTt⟩ := hT
    simp only [Value.pointer.injEq, Option.some.injEq, Addr.mk.injEq, and_true] at e0
    obtain ⟨rfl, rfl⟩ := e0
    obtain ⟨v, e1, hk, hu, hrow⟩ := hTt
    simp only [List.cons.injEq, and_true] at e1
    obtain ⟨rfl, rfl, rfl⟩ := e1
    have c0w := cell_below hb c0
    have c1w := cell_below hb c1
    have c2w := cell_below hb c2
    obtain ⟨k', u', us'⟩ := x
    by_cases h4 : (k == 4) = true
    · have hk4 : k = 4 := by simpa using h4
      have hval : mt (.mk k u us) (.mk k' u' us') F = mv u (.mk k' u' us') F := by rw [mt, if_pos hk4]
      rw [hval]
      have hcall := matchVar_any W0 p N b2 o2 (.mk k' u' us') u F w hXN hb hF hl
      obtain ⟨R, hR⟩ : ∃ R, mv u (.mk k' u' us') F = R := ⟨_, rfl⟩
      rw [hR] at hcall ⊢
      have HA := Lib.hid hcall
      clear hcall hXN hX hb hF hl ih hrow hk4 hval hR c0 c1 c2 c2w
      go_enter Try.func20, Try.ntmps20
      go_wp2_with fail
      refine HA.out.mono ?_
      rintro e w6 ⟨rfl, hb6, hF6⟩
      have HB := Lib.hid (And.intro hb6 hF6)
      clear hb6 hF6
      go_wp2_with fail
      go_ret
      exact ⟨rfl, HB.out.1, HB.out.2⟩
    have hk4 : k ≠ 4 := by simpa using h4
    have h4' : (k == 4) = false := by simpa using h4
    obtain ⟨b3, o3, s0, s1, s2, e2, d0, d1, d2, hTx⟩ := hX
    simp only [Value.pointer.injEq, Option.some.injEq, Addr.mk.injEq, and_true] at e2
    obtain ⟨rfl, rfl⟩ := e2
    match m, hTx with
    | m + 1, hTx =>
    obtain ⟨v', e3, hk', hu', hrow'⟩ := hTx
    simp only [List.cons.injEq, and_true] at e3
    obtain ⟨rfl, rfl, rfl⟩ := e3
    have d0w := cell_below hb d0
    have d1w := cell_below hb d1
    have d2w := cell_below hb d2
    have hrow1 := hrow
    have hrow2 := hrow'
    obtain ⟨a, cap, rfl, hcap, hcap2, -⟩ := hrow
    obtain ⟨a', cap', rfl, hcap', hcap2', -⟩ := hrow'
    have HA := Lib.hid (And.intro ih (And.intro (show TpsC W0.cell? n _ us from hrow1) (And.intro (show TpsC W0.cell? m _ us' from hrow2) (And.intro hb (And.intro hF (And.intro hl hm))))))
    clear ih hrow1 hrow2 hXN hl hm c0 c1 d0 d1 h4
    by_cases g1 : (k != k') = true
    · have hval : mt (.mk k u us) (.mk k' u' us') F = (false, F) := by
        rw [mt, if_neg hk4, if_neg (fun h => by simp [h.1] at g1)]
      rw [hval]
      clear hval hk4 hb hF c2 d2
      go_enter Try.func20, Try.ntmps20
      go_wp2_with fail
      go_quiet (fail)
      have HF := Lib.hid (And.intro (HA.out.2.2.2.1.grown (grown_drewN w nq none) HA.out.2.2.2.1.size (by simp)) (show FoundR W0 (w.drewN nq) p N F from by
        obtain ⟨vf, h1, h2⟩ := HA.out.2.2.2.2.1
        exact ⟨vf, h1.kept (grown_drewN w nq none) (by simp), h2.kept (row := none) (grown_drewN w nq none) (by cases vf.ownBlock <;> simp)⟩))
      go_wp2
      go_ret
      exact ⟨rfl, HF.out.1, HF.out.2⟩
    have g1' : (k != k') = false := by simpa using g1
    by_cases g2 : (u != u') = true
    · have hval : mt (.mk k u us) (.mk k' u' us') F = (false, F) := by
        rw [mt, if_neg hk4, if_neg (fun h => by simp [h.2.1] at g2)]
      rw [hval]
      clear hval hk4 hb hF c2 d2 g1
      go_enter Try.func20, Try.ntmps20
      go_wp2_with fail
      go_quiet (fail)
      have HF := Lib.hid (And.intro (HA.out.2.2.2.1.grown (grown_drewN w nq none) HA.out.2.2.2.1.size (by simp)) (show FoundR W0 (w.drewN nq) p N F from by
        obtain ⟨vf, h1, h2⟩ := HA.out.2.2.2.2.1
        exact ⟨vf, h1.kept (grown_drewN w nq none) (by simp), h2.kept (row := none) (grown_drewN w nq none) (by cases vf.ownBlock <;> simp)⟩))
      go_wp2
      go_ret
      exact ⟨rfl, HF.out.1, HF.out.2⟩
    have g2' : (u != u') = false := by simpa using g2
    by_cases g3 : ((us.length : Int) != (us'.length : Int)) = true
    · have hval : mt (.mk k u us) (.mk k' u' us') F = (false, F) := by
        rw [mt, if_neg hk4, if_neg (fun h => by simp [h.2.2] at g3)]
      rw [hval]
      have g3i : ¬ (us.length : Int) = (us'.length : Int) := by simpa using g3
      have g3n : (us.length != us'.length) = true := bne_iff_ne.2 (by omega)
      clear g3i
      clear hval hk4 hb hF c2 d2 g1 g2
      go_enter Try.func20, Try.ntmps20
      go_wp2_with fail
      go_quiet (fail)
      have HF := Lib.hid (And.intro (HA.out.2.2.2.1.grown (grown_drewN w nq none) HA.out.2.2.2.1.size (by simp)) (show FoundR W0 (w.drewN nq) p N F from by
        obtain ⟨vf, h1, h2⟩ := HA.out.2.2.2.2.1
        exact ⟨vf, h1.kept (grown_drewN w nq none) (by simp), h2.kept (row := none) (grown_drewN w nq none) (by cases vf.ownBlock <;> simp)⟩))
      go_wp2
      go_ret
      exact ⟨rfl, HF.out.1, HF.out.2⟩
    have hll : us.length = us'.length := by
      have g3i : (us.length : Int) = (us'.length : Int) := by simpa using g3
      omega
    have hval : mt (.mk k u us) (.mk k' u' us') F = mtL us us' F := by
      rw [mt, if_neg hk4, if_pos ⟨by simpa using g1', by simpa using g2', hll⟩]
    rw [hval]
    obtain ⟨R, hR⟩ : ∃ R, mtL us us' F = R := ⟨_, rfl⟩
    rw [hR]
    obtain ⟨n', hn'⟩ : ∃ q, us.length = q := ⟨_, rfl⟩
    have hn2 : us'.length = n' := by omega
    have HR := Lib.hid (And.intro hR (And.intro hn' hn2))
    rw [hn'] at c2w c2 hcap
    rw [hn2] at d2w d2 hcap'
    have g3' : ((n' : Int) != (n' : Int)) = false := by simp
    have g3n : (n' != n') = false := by simp
    clear hval hk4 hb hF g1 g2 g3 hll hR hn' hn2
    go_enter Try.func20, Try.ntmps20
    go_wp2_with fail
    go_quiet (fail)
    have HF := Lib.hid (And.intro (HA.out.2.2.2.1.grown (grown_drewN w nq none) HA.out.2.2.2.1.size (by simp)) (show FoundR W0 (w.drewN nq) p N F from by
      obtain ⟨vf, h1, h2⟩ := HA.out.2.2.2.2.1
      exact ⟨vf, h1.kept (grown_drewN w nq none) (by simp), h2.kept (row := none) (grown_drewN w nq none) (by cases vf.ownBlock <;> simp)⟩))
    go_wp2
    have y2 : (w.drewN nq).cell? ⟨b, o + 2, none⟩ = some (.slice a n' cap) := c2w
    clear c0w c1w c2w d0w d1w d2w
    generalize w.drewN nq = W1 at HF y2 ⊢
    have hR1 := HR.out.1
    go_loopw [58] (fun x wr => ∃ (i : Nat) (G : List (Option Tp)), i ≤ n' ∧ x = .int .i64 i ∧ G.length ≤ 101 ∧ Hid (mtL (us.drop i) (us'.drop i) G = R) ∧ Below W0.heap.size W0 wr ∧ FoundR W0 wr p N G) (fun x _ => n' - (intOf x).toNat)
    case atStart => exact ⟨0, F, Nat.zero_le _, rfl, HA.out.2.2.2.2.2.1, Lib.hid hR1, HF.out.1, HF.out.2⟩
    case round =>
      obtain ⟨i, G, hi, rfl, hG, hres, hb, hFF⟩ := hrel
      clear hR1
      by_cases hlt : i < n'
      · have hii : (i : Int) < (n' : Int) := by omega
        have hi1 : i < us.length := by have := HR.out.2.1; omega
        have hi2 : i < us'.length := by have := HR.out.2.2; omega
        have hP1 := HA.out.2.1
        have hP2 := HA.out.2.2.1
        obtain ⟨bb, oo, rfl, hp1⟩ := hP1.ptr hi1
        obtain ⟨bb2, oo2, rfl, hp2⟩ := hP2.ptr hi2
        have hres' := hres.out
        rw [mtL_drop hi1 hi2] at hres'
        have x2 := cell_below hb c2
        have z2 := cell_below hb d2
        have H1 := Lib.hid (And.intro hp1 (And.intro hp2 (And.intro hres' (And.intro hb hFF))))
        clear hP1 hP2 hp1 hp2 hres' hres hb hFF
        go_wp2_with fail
        go_still_tail 13, (by kernel_rfl)
        change wpList _ _ _ _ _ wr.drew
        have hbd : Below wr.heap.size wr wr.drew := (Below.refl _ wr).drew
        have hcall := HA.out.1 m (by have := HA.out.2.2.2.2.2.2; omega) bb (oo + i * 3) bb2 (oo2 + i * 3) us[i] us'[i] G wr.drew H1.out.1 H1.out.2.1 (below_next' H1.out.2.2.2.1 hbd) (by
          obtain ⟨vf, h1, h2⟩ := H1.out.2.2.2.2
          exact ⟨vf, h1.below hbd, h2.below hbd⟩) hG
        have hlen := mt_length us[i] us'[i] G hG
        obtain ⟨r, hr⟩ : ∃ r, mt us[i] us'[i] G = r := ⟨_, rfl⟩
        have hres2 := H1.out.2.2.1
        rw [hr] at hcall hres2 hlen
        have HC := Lib.hid (And.intro hcall (And.intro hres2 hlen))
        clear hbd hcall hres2 hlen hr x2 z2
        generalize wr.drew = W10 at HC ⊢
        go_wp2_with fail
        refine HC.out.1.mono ?_
        rintro e w6 ⟨rfl, hb6, hF6⟩
        obtain ⟨r1, r2⟩ := r
        have hres3 := HC.out.2.1
        have hl3 := HC.out.2.2
        simp only at hres3 hl3 hF6 ⊢
        cases r1
        · have HK := Lib.hid (And.intro hb6 (And.intro hF6 hres3))
          clear hb6 hF6 hres3 hl3
          go_wp2_with fail
          go_ret
          have h3 := HK.out.2.2
          rw [if_neg (by simp)] at h3
          rw [← h3]
          exact ⟨rfl, HK.out.1, HK.out.2.1⟩
        · rw [if_pos rfl] at hres3
          have HK := Lib.hid (And.intro hb6 (And.intro hF6 (And.intro hres3 hl3)))
          clear hb6 hF6 hres3 hl3
          go_wp2_with fail
          go_roundw
          case rel => exact ⟨i + 1, r2, by omega, by go_num, HK.out.2.2.2, Lib.hid HK.out.2.2.1, HK.out.1, HK.out.2.1⟩
          case measure => simp [intOf] <;> omega
      · obtain rfl : n' = i := by omega
        have h3 := hres.out
        rw [List.drop_of_length_le (by have := HR.out.2.1; omega), List.drop_of_length_le (by have := HR.out.2.2; omega), mtL] at h3
        have HK := Lib.hid (And.intro hb (And.intro hFF h3))
        clear hb hFF h3 hres hlt
        go_wp2_with fail
        go_ret
        rw [← HK.out.2.2]
        exact ⟨rfl, HK.out.1, HK.out.2.1⟩
        simp
end Go.Proofs.Ytkobfnpkebgmjaa
