/-
  The walk of typing.Fields. Conditions: a short list of declarations with small types, a type of at most 250 nodes.
-/
import Derived.Test.YtkobfnpkebgmjaaTpData
import Derived.Test.YtkobfnpkebgmjaaTpCopy
namespace Go.Proofs.Ytkobfnpkebgmjaa
open Go.RowKit Go.Deep

/-- A row of k types that the call itself made, of which the first are set. -/
def TpFill (w : World) (B g k n : Nat) (l : List Tp) : Prop :=
  ∃ xs, BoxV w B g 25 xs ∧ xs.length = k * 3 ∧ l.length ≤ k ∧ ∀ i (h : i < l.length), ∃ t0 t1 t2, xs[i * 3]? = some t0 ∧ xs[i * 3 + 1]? = some t1 ∧ xs[i * 3 + 2]? = some t2 ∧ TpC (cut w (fun b => B ≤ b ∧ b ≠ g)) n [t0, t1, t2] l[i]
theorem TpFill.new (w : World) (B k n : Nat) (hB : B ≤ w.heap.size) : TpFill (w.alloc (.cells (madeCells #[.int .i64 0, .int .i64 0, .slice none 0 0] (k * 3)) 25)) B w.heap.size k n [] :=
  ⟨(madeCells #[.int .i64 0, .int .i64 0, .slice none 0 0] (k * 3)).toList, BoxV.new w B 25 hB _, by rw [Array.length_toList, size_madeCells], Nat.zero_le _, fun i h => absurd h (by simp)⟩
theorem TpFill.kept {w w' : World} {B g k n : Nat} {l : List Tp} {row : Option Nat} (h : TpFill w B g k n l) (hg : w.grownBy w' row) (hrow : ∀ q, row = some q → q < B ∨ w.heap.size ≤ q) : TpFill w' B g k n l := by
  obtain ⟨xs, hb, h1, h2, h3⟩ := h
  refine ⟨xs, hb.kept hg fun e => ?_, h1, h2, fun i hi => ?_⟩
  · have := hb.block
    rcases hrow g e.symm with h | h <;> omega
  · obtain ⟨t0, t1, t2, e0, e1, e2, ht⟩ := h3 i hi
    refine ⟨t0, t1, t2, e0, e1, e2, ht.kept (cut_grown hg fun b hb hs => ⟨hs, fun e => ?_⟩)⟩
    have h1 : B ≤ b := hs.1
    rcases hrow b e.symm with h | h <;> omega
theorem TpFill.store {w : World} {B g k n : Nat} {l : List Tp} {x : Tp} {t0 t1 t2 : Value} (h : TpFill w B g k n l) (hl : l.length < k) (hx : TpC (cut w (fun b => B ≤ b ∧ b ≠ g)) n [t0, t1, t2] x) :
    TpFill (((w.setCell ⟨g, l.length * 3, none⟩ t0).setCell ⟨g, l.length * 3 + 1, none⟩ t1).setCell ⟨g, l.length * 3 + 2, none⟩ t2) B g k n (l ++ [x]) := by
  obtain ⟨xs, hb, h1, h2, h3⟩ := h
  have hG := grown_trans (grown_trans (grown_set w g (l.length * 3) t0) (grown_set _ g (l.length * 3 + 1) t1)) (grown_set _ g (l.length * 3 + 2) t2)
  refine ⟨((xs.set (l.length * 3) t0).set (l.length * 3 + 1) t1).set (l.length * 3 + 2) t2, boxV_setT (boxV_setT (boxV_setT hb _ _) _ _) _ _, by simpa using h1, by rw [List.length_append, List.length_singleton]; omega, fun i hi => ?_⟩
  have keep : ∀ b, b < w.heap.size → (B ≤ b ∧ b ≠ g) → (B ≤ b ∧ b ≠ g) ∧ some b ≠ some g := fun b _ hs => ⟨hs, fun e => hs.2 (Option.some.inj e)⟩
  rw [List.length_append, List.length_singleton] at hi
  by_cases hlt : i < l.length
  · obtain ⟨u0, u1, u2, e0, e1, e2, ht⟩ := h3 i hlt
    refine ⟨u0, u1, u2, ?_, ?_, ?_, ?_⟩
    · rw [List.getElem?_set_ne (by omega), List.getElem?_set_ne (by omega), List.getElem?_set_ne (by omega)]; exact e0
    · rw [List.getElem?_set_ne (by omega), List.getElem?_set_ne (by omega), List.getElem?_set_ne (by omega)]; exact e1
    · rw [List.getElem?_set_ne (by omega), List.getElem?_set_ne (by omega), List.getElem?_set_ne (by omega)]; exact e2
    · rw [List.getElem_append_left hlt]
      exact ht.kept (cut_grown hG keep)
  · obtain rfl : i = l.length := by omega
    refine ⟨t0, t1, t2, ?_, ?_, ?_, ?_⟩
    · rw [List.getElem?_set_ne (by omega), List.getElem?_set_ne (by omega), List.getElem?_set_self (by omega)]
    · rw [List.getElem?_set_ne (by omega), List.getElem?_set_self (by rw [List.length_set]; omega)]
    · rw [List.getElem?_set_self (by rw [List.length_set, List.length_set]; omega)]
    · have e : (l ++ [x])[l.length] = x := by simp
      rw [e]
      exact hx.kept (cut_grown hG keep)
theorem TpFill.cells {w : World} {B g k n : Nat} {l : List Tp} (h : TpFill w B g k n l) (j : Nat) (hj : j < k * 3) : ∃ u, w.cell? ⟨g, j, none⟩ = some u ∧ w.frozen? ⟨g, j, none⟩ = false := by
  obtain ⟨xs, hb, h1, _⟩ := h
  exact ⟨xs[j], by rw [hb.cell j (by omega), List.getElem?_eq_getElem (by omega)], hb.frozen j⟩
theorem TpFill.tps {w : World} {B g n : Nat} {l : List Tp} (h : TpFill w B g l.length n l) (hl : l.length ≤ 9223372036854775807) : TpsC (cut w (fun b => B ≤ b)) n (.slice (some ⟨g, 0, none⟩) l.length l.length) l := by
  obtain ⟨xs, hb, h1, h2, h3⟩ := h
  refine ⟨_, _, rfl, Nat.le_refl _, hl, fun i hi => ?_⟩
  obtain ⟨t0, t1, t2, e0, e1, e2, ht⟩ := h3 i hi
  refine ⟨g, 0, [t0, t1, t2], rfl, rfl, fun j hj => ?_, ht.kept (cut_le fun b h => h.1)⟩
  have hk : ∀ m u, m < l.length * 3 → xs[m]? = some u → cut w (fun b => B ≤ b) ⟨g, 0 + m, none⟩ = some u := fun m u hm h => by
    refine cut_some.2 ⟨hb.block.1, ?_⟩
    rw [Nat.zero_add, hb.cell m (by omega)]
    exact h
  match j, hj with
  | 0, _ => exact hk _ _ (by omega) e0
  | 1, _ => rw [show 0 + i * 3 + 1 = 0 + (i * 3 + 1) by omega]; exact hk _ _ (by omega) e1
  | 2, _ => rw [show 0 + i * 3 + 2 = 0 + (i * 3 + 2) by omega]; exact hk _ _ (by omega) e2

/-- The argument types of a constructor, if there are. -/
def fieldsR (l : List Dec) : Tp → Int → Option (List Tp)
  | .mk k u us, c => if k = 5 ∧ 0 ≤ u ∧ 0 ≤ c then
      match l[u.toNat]? with
      | none => none
      | some d => if (us.length : Int) = d.vars then
          match d.cons[c.toNat]? with
          | none => none
          | some x => if (x.args.all fun t => decide (size (sub us t) ≤ 200)) = true then some (subL us x.args) else none
        else none
    else none
theorem fieldsR_mk (l : List Dec) (k u : Int) (us : List Tp) (c : Int) : fieldsR l (.mk k u us) c = if k = 5 ∧ 0 ≤ u ∧ 0 ≤ c then
      match l[u.toNat]? with
      | none => none
      | some d => if (us.length : Int) = d.vars then
          match d.cons[c.toNat]? with
          | none => none
          | some x => if (x.args.all fun t => decide (size (sub us t) ≤ 200)) = true then some (subL us x.args) else none
        else none
    else none := rfl
def FieldsR (l : List Dec) (T : Tp) (c : Int) (N B : Nat) (v : Value) (b : Bool) (w : World) : Prop :=
  match fieldsR l T c with
  | none => v = .slice none 0 0 ∧ b = false
  | some fs => b = true ∧ TpsC (cut w (fun x => B ≤ x)) N v fs
def FieldsP (l : List Dec) (T : Tp) (c : Int) (N : Nat) (w : World) (e : Ending) (w' : World) : Prop :=
  ∃ v b, e = .returned (.tuple #[v, .bool b]) ∧ Below w.heap.size w w' ∧ FieldsR l T c N w.heap.size v b w'
theorem FieldsP.none {l : List Dec} {T : Tp} {c : Int} {N : Nat} {w w' : World} (h : fieldsR l T c = none) (hb : Below w.heap.size w w') : FieldsP l T c N w (.returned (.tuple #[.slice none 0 0, .bool false])) w' :=
  ⟨_, _, rfl, hb, by unfold FieldsR; rw [h]; exact ⟨rfl, rfl⟩⟩
theorem run_makeTp (k : Nat) (w : World) (h1 : k ≤ 1000) :
    (Instr.makeSlice 23 (Value.int IntKind.i64 (k : Int)) (Value.int IntKind.i64 (k : Int))).run Try.prog w = .ok (.slice (some ⟨w.heap.size, 0, none⟩) k k) (w.alloc (.cells (madeCells #[.int .i64 0, .int .i64 0, .slice none 0 0] (k * 3)) 25)) := by
  have hinfo : (Try.prog.info? 25).map (fun i => (i.zero, i.size, i.bytes)) = some (some (.agg #[.int .i64 0, .int .i64 0, .slice none 0 0]), 3, 40) := by kernel_rfl
  obtain ⟨i, hi, hzz⟩ := Option.map_eq_some_iff.1 hinfo
  simp only [Prod.mk.injEq] at hzz
  obtain ⟨hz, hs, hb⟩ := hzz
  have hr := run_make (P := Try.prog) w 23 25 i _ (by kernel_rfl) hi hz .i64 .i64 k k (by omega) (Int.le_refl _) (by rw [hb]; omega) (by omega)
  simp only [Int.toNat_natCast, hs] at hr
  exact hr

theorem copy_nil (n : Nat) : CopyP [] 0 n := copy_gen [] 0 (.inl rfl) (by simp) n
theorem copy_any (ls : List Tp) (m n : Nat) (hs : ∀ t ∈ ls, size t ≤ 1000000) : CopyP ls m n := copy_gen ls m (.inr (copy_nil m)) hs n

set_option maxRecDepth 100000 in
set_option maxHeartbeats 8000000 in
theorem fields_any (n m : Nat) (vd : Value) (l : List Dec) (cs : List Value) (T : Tp) (c : Int) (w : World) (hd : DecsC w.cell? n vd l) (hok : DecsOk l) (hT : TpC w.cell? (m + 1) cs T) (hsz : size T ≤ 250) :
    Calls Try.prog 7 #[vd, .agg cs.toArray, .int .i64 c] w (FieldsP l T c (n + m) w) := by
  obtain ⟨k, u, us⟩ := T
  obtain ⟨v, rfl, hk, hu, hrowU⟩ := hT
  have hrowU' := hrowU
  obtain ⟨a, cap, rfl, hcap, hcap2, -⟩ := hrowU
  obtain ⟨ad, cd, rfl, hcd, hcd2, hrowD⟩ := hd
  have hb1 := below_alloc1 w (.cells #[.int .i64 k, .int .i64 u, .slice a us.length cap] 25)
  have HA := Lib.hid (And.intro (show TpsC w.cell? m _ us from hrowU') (And.intro hrowD (And.intro hok (And.intro hsz hb1))))
  have hPb := BoxV.new w w.heap.size 25 (Nat.le_refl _) [.int .i64 k, .int .i64 u, .slice a us.length cap]
  have y0 : (w.alloc (.cells #[.int .i64 k, .int .i64 u, .slice a us.length cap] 25)).cell? ⟨w.heap.size, 0, none⟩ = some (.int .i64 k) := hPb.cell 0 (by simp)
  have y1 : (w.alloc (.cells #[.int .i64 k, .int .i64 u, .slice a us.length cap] 25)).cell? ⟨w.heap.size, 1, none⟩ = some (.int .i64 u) := hPb.cell 1 (by simp)
  have y2 : (w.alloc (.cells #[.int .i64 k, .int .i64 u, .slice a us.length cap] 25)).cell? ⟨w.heap.size, 2, none⟩ = some (.slice a us.length cap) := hPb.cell 2 (by simp)
  clear hrowU' hrowD hok hsz hb1
  by_cases h1 : (k != 5) = true
  · have hk5 : ¬ k = 5 := by simpa using h1
    have hN := Lib.hid (show fieldsR l (.mk k u us) c = none from by
      rw [fieldsR_mk]
      rw [if_neg (fun h => hk5 h.1)])
    clear hk5
    go_enter Try.func7, Try.ntmps7
    go_wp2_with fail
    go_quiet (fail)
    go_wp2
    go_ret2
    exact .none hN.out (HA.out.2.2.2.2.grown (grown_drewN _ _ none) HA.out.2.2.2.2.size (by simp))
  have h1' : (k != 5) = false := by simpa using h1
  have hk5 : k = 5 := by simpa using h1'
  clear h1
  by_cases h2 : decide (u < 0) = true
  · have hu0 : u < 0 := of_decide_eq_true h2
    have hN := Lib.hid (show fieldsR l (.mk k u us) c = none from by
      rw [fieldsR_mk]
      rw [if_neg (fun h => by omega)])
    clear hu0 hk5
    go_enter Try.func7, Try.ntmps7
    go_wp2_with fail
    go_quiet (fail)
    go_wp2
    go_ret2
    exact .none hN.out (HA.out.2.2.2.2.grown (grown_drewN _ _ none) HA.out.2.2.2.2.size (by simp))
  have h2' : decide (u < 0) = false := by simpa using h2
  have hu0 : 0 ≤ u := by have := of_decide_eq_false h2'; omega
  clear h2
  by_cases h3 : decide ((l.length : Int) ≤ u) = true
  · have hul : (l.length : Int) ≤ u := by have := of_decide_eq_true h3; omega
    have hN := Lib.hid (show fieldsR l (.mk k u us) c = none from by
      rw [fieldsR_mk]
      rw [List.getElem?_eq_none (by omega)]
      split <;> rfl)
    clear hul hk5 hu0
    go_enter Try.func7, Try.ntmps7
    go_wp2_with fail
    go_quiet (fail)
    go_wp2
    go_ret2
    exact .none hN.out (HA.out.2.2.2.2.grown (grown_drewN _ _ none) HA.out.2.2.2.2.size (by simp))
  have h3' : decide ((l.length : Int) ≤ u) = false := by simpa using h3
  obtain ⟨uN, rfl⟩ : ∃ q : Nat, u = (q : Int) := ⟨u.toNat, by omega⟩
  have hul : uN < l.length := by have := of_decide_eq_false h3'; omega
  have h3n : decide (l.length ≤ uN) = false := decide_eq_false (by omega)
  clear h3
  obtain ⟨b, o, cs', rfl, hcl, hcs, v2, rfl, hns, hvars, hcons⟩ := HA.out.2.1 uN hul
  obtain ⟨d, hdE⟩ : ∃ d, l[uN] = d := ⟨_, rfl⟩
  have hdok := HA.out.2.2.1.2 uN hul
  rw [hdE] at hcs hns hvars hcons hdok
  obtain ⟨name, vars, cons⟩ := d
  simp only at hcs hns hvars hcons
  obtain ⟨a2, cap2, rfl, hcap3, hcap4, hrow2⟩ := hcons
  have i1 : (w.alloc (.cells #[.int .i64 k, .int .i64 uN, .slice a us.length cap] 25)).cell? ⟨b, o + uN * 3 + 1, none⟩ = some (.int .i64 vars) := cell_below HA.out.2.2.2.2 (hcs 1 (by omega))
  have i2 : (w.alloc (.cells #[.int .i64 k, .int .i64 uN, .slice a us.length cap] 25)).cell? ⟨b, o + uN * 3 + 2, none⟩ = some (.slice a2 cons.length cap2) := cell_below HA.out.2.2.2.2 (hcs 2 (by omega))
  have hlk : l[(uN : Int).toNat]? = some ⟨name, vars, cons⟩ := by rw [Int.toNat_natCast, List.getElem?_eq_getElem hul, hdE]
  have HD := Lib.hid (And.intro hrow2 (And.intro hdok hlk))
  clear hrow2 hdok hlk hcs hdE
  by_cases h4 : ((us.length : Int) != vars) = true
  · have hne : ¬ (us.length : Int) = vars := by simpa using h4
    have hN := Lib.hid (show fieldsR l (.mk k uN us) c = none from by
      rw [fieldsR_mk]
      rw [HD.out.2.2]
      simp only
      rw [if_neg hne]
      split <;> rfl)
    clear hne hk5
    go_enter Try.func7, Try.ntmps7
    go_wp2_with fail
    go_quiet (fail)
    go_wp2
    go_ret2
    exact .none hN.out (HA.out.2.2.2.2.grown (grown_drewN _ _ none) HA.out.2.2.2.2.size (by simp))
  have h4' : ((us.length : Int) != vars) = false := by simpa using h4
  have heq : (us.length : Int) = vars := by simpa using h4'
  have hq := Lib.hid heq
  clear h4 heq
  by_cases h5 : c < 0
  · have hN := Lib.hid (show fieldsR l (.mk k uN us) c = none from by
      rw [fieldsR_mk]
      rw [if_neg (fun h => by omega)])
    clear hk5
    go_enter Try.func7, Try.ntmps7
    go_wp2_with fail
    go_quiet (fail)
    go_wp2
    go_ret2
    exact .none hN.out (HA.out.2.2.2.2.grown (grown_drewN _ _ none) HA.out.2.2.2.2.size (by simp))
  obtain ⟨cN, rfl⟩ : ∃ q : Nat, c = (q : Int) := ⟨c.toNat, by omega⟩
  by_cases h6 : cons.length ≤ cN
  · have h6' : (cons.length : Int) ≤ (cN : Int) := by omega
    have hN := Lib.hid (show fieldsR l (.mk k uN us) (cN : Int) = none from by
      rw [fieldsR_mk]
      rw [HD.out.2.2]
      simp only
      rw [Int.toNat_natCast, List.getElem?_eq_none h6]
      split
      · split <;> rfl
      · rfl)
    clear hk5
    go_enter Try.func7, Try.ntmps7
    go_wp2_with fail
    go_quiet (fail)
    go_wp2
    go_ret2
    exact .none hN.out (HA.out.2.2.2.2.grown (grown_drewN _ _ none) HA.out.2.2.2.2.size (by simp))
  have h6' : ¬ (cons.length : Int) ≤ (cN : Int) := by omega
  have h6n : cN < cons.length := by omega
  obtain ⟨b2, o2, cs2, rfl, hcl2, hcs2, v3, rfl, hcn, hargs⟩ := HD.out.1 cN h6n
  obtain ⟨x, hxE⟩ : ∃ x, cons[cN] = x := ⟨_, rfl⟩
  have hcok := HD.out.2.1.2 cN h6n
  have hcok' : ConOk cons[cN] := hcok
  rw [hxE] at hcs2 hcn hargs hcok'
  obtain ⟨cname, args⟩ := x
  simp only at hcs2 hcn hargs
  obtain ⟨a3, cap5, rfl, hcap5, hcap6, hrow3⟩ := hargs
  have hal : args.length ≤ 8 := hcok'.1
  have k1 : w.cell? ⟨b2, o2 + cN * 2 + 1, none⟩ = some (.slice a3 args.length cap5) := hcs2 1 (by omega)
  obtain ⟨R, hR⟩ : ∃ R, fieldsR l (.mk k uN us) cN = R := ⟨_, rfl⟩
  have hRv : R = if (args.all fun t => decide (size (sub us t) ≤ 200)) = true then some (subL us args) else none := by
    rw [← hR, fieldsR_mk, if_pos ⟨hk5, by omega, by omega⟩, HD.out.2.2]
    simp only
    rw [if_pos hq.out, Int.toNat_natCast, List.getElem?_eq_getElem h6n, hxE]
  have hmk := fun W => run_makeTp args.length W (by omega)
  have HE := Lib.hid (And.intro hRv (And.intro hR (And.intro hcok'.2 (And.intro (show TpsC w.cell? n _ args from ⟨_, _, rfl, hcap5, hcap6, hrow3⟩) (And.intro hPb k1)))))
  clear hRv hR hcok hcok' hrow3 hPb hk5 hcs2 hxE k1 hcl2 hcl
  have k1 := cell_below HA.out.2.2.2.2 HE.out.2.2.2.2.2
  go_enter Try.func7, Try.ntmps7
  go_wp2_with fail
  go_quiet (fail)
  have hW1 := HA.out.2.2.2.2.grown (grown_drewN _ nq none) HA.out.2.2.2.2.size (by simp)
  have hP1 := HE.out.2.2.2.2.1.kept (grown_drewN _ nq none) (by simp)
  have H1 := Lib.hid (And.intro hW1 hP1)
  have k1' : ((w.alloc (.cells #[.int .i64 k, .int .i64 uN, .slice a us.length cap] 25)).drewN nq).cell? ⟨b2, o2 + cN * 2 + 1, none⟩ = some (.slice a3 args.length cap5) := k1
  have i2' : ((w.alloc (.cells #[.int .i64 k, .int .i64 uN, .slice a us.length cap] 25)).drewN nq).cell? ⟨b, o + uN * 3 + 2, none⟩ = some (.slice (some ⟨b2, o2, none⟩) cons.length cap2) := i2
  have y1' : ((w.alloc (.cells #[.int .i64 k, .int .i64 uN, .slice a us.length cap] 25)).drewN nq).cell? ⟨w.heap.size, 1, none⟩ = some (.int .i64 uN) := y1
  clear k1 i1 i2 y0 y1 y2 hW1 hP1
  generalize (w.alloc (.cells #[.int .i64 k, .int .i64 uN, .slice a us.length cap] 25)).drewN nq = W1 at H1 k1' i2' y1' ⊢
  go_wp2_with fail
  have hgw : w.heap.size < W1.heap.size := H1.out.2.block.2
  have hF1 := TpFill.new W1 W1.heap.size args.length (n + m) (Nat.le_refl _)
  have hW2 := below_next' H1.out.1 (below_alloc1 W1 (.cells (madeCells #[.int .i64 0, .int .i64 0, .slice none 0 0] (args.length * 3)) 25))
  have hP2 := H1.out.2.alloc (.cells (madeCells #[.int .i64 0, .int .i64 0, .slice none 0 0] (args.length * 3)) 25)
  have H2 := Lib.hid (And.intro hF1 (And.intro hW2 hP2))
  have K1 := Lib.hid (And.intro hmk HE.out.2.2.2.2.2)
  clear hF1 hW2 hP2 k1' i2' y1' hmk h1' h2' h3' h3n h4' h5 h6' h6 hcn
  generalize W1.alloc (.cells (madeCells #[.int .i64 0, .int .i64 0, .slice none 0 0] (args.length * 3)) 25) = W2 at H2 ⊢
  go_loopw [62] (fun x wr => ∃ i : Nat, i ≤ args.length ∧ x = .int .i64 i ∧ Hid (∀ j (h : j < args.length), j < i → size (sub us args[j]) ≤ 200) ∧ Below w.heap.size w wr ∧ BoxV wr w.heap.size w.heap.size 25 [.int .i64 k, .int .i64 uN, .slice a us.length cap] ∧ W1.heap.size ≤ wr.heap.size ∧ TpFill wr W1.heap.size W1.heap.size args.length (n + m) (subL us (args.take i))) (fun x _ => args.length - (intOf x).toNat)
  case atStart => exact ⟨0, Nat.zero_le _, rfl, Lib.hid fun j _ h => by omega, H2.out.2.1, H2.out.2.2, by have := H2.out.1; obtain ⟨xs, hb, _⟩ := this; exact Nat.le_of_lt hb.block.2, by rw [List.take_zero, subL]; exact H2.out.1⟩
  case round =>
    obtain ⟨wC, hwC⟩ : ∃ y, y = wr := ⟨_, rfl⟩
    subst hwC
    obtain ⟨i, hi, rfl, hall, hb, hP, hge, hF⟩ := hrel
    by_cases hlt : i < args.length
    · have hii : (i : Int) < (args.length : Int) := by omega
      obtain ⟨b3, o3, t0, t1, t2, rfl, j0, j1, j2, hTi⟩ := HE.out.2.2.2.1.cells hlt
      have d2 := hP.cell 2 (by simp)
      have hb2 := below_next' hb (below_alloc1 wC (.cells #[.slice a us.length cap, .int .i64 200] 47))
      have kk := cell_below hb2 K1.out.2
      have hX : BoxV (wC.alloc (.cells #[.slice a us.length cap, .int .i64 200] 47)) 0 wC.heap.size 47 [.slice a us.length cap, .int .i64 200] := BoxV.new wC 0 47 (Nat.zero_le _) _
      have hgA := World.grownBy_alloc wC (.cells #[.slice a us.length cap, .int .i64 200] 47) (some wC.heap.size)
      have hmv : ∀ x y, w.cell? x = some y → cut (wC.alloc (.cells #[.slice a us.length cap, .int .i64 200] 47)) (· ≠ wC.heap.size) x = some y := fun x y h => cut_some.2 ⟨by have := World.block_lt_of_cell? w _ h; have := hb.size; omega, cell_below hb2 h⟩
      have hsu : ∀ t ∈ us, size t ≤ 1000000 := fun t ht => by have := size_mem ht; have h2 := HA.out.2.2.2.1; rw [size] at h2; omega
      have hsi : size args[i] ≤ 1000000 := by have := size_mem (List.getElem_mem hlt); have := HE.out.2.2.1; have h3 : sizeL args ≤ 20 := this; omega
      have hcsI : ∀ j, j < 3 → cut (wC.alloc (.cells #[.slice a us.length cap, .int .i64 200] 47)) (· ≠ wC.heap.size) ⟨b3, o3 + i * 3 + j, none⟩ = [t0, t1, t2][j]? := fun j hj => match j, hj with
        | 0, _ => hmv _ _ j0
        | 1, _ => hmv _ _ j1
        | 2, _ => hmv _ _ j2
      have hcall := copy_any us m n hsu (.slice a us.length cap) wC.heap.size b3 (o3 + i * 3) args[i] _ 200 [t0, t1, t2] hcsI rfl (hTi.kept hmv) (HA.out.1.kept hmv) hX (by omega) (by omega) hsi
      have HC := Lib.hid (And.intro hcall (And.intro hb2 (And.intro hgA (And.intro hF (And.intro hP (And.intro hb hall.out))))))
      clear hcall hX hgA hF hP hb hall hmv hsu hsi hcsI hTi j0 j1 j2 hb2
      go_wp2_with fail
      refine HC.out.1.mono ?_
      rintro e w6 ⟨r, rfl, hg6, hB6, k1, u1, a1, m1, c1, rfl, hx⟩
      have hgC := grown_trans HC.out.2.2.1 hg6
      have hF6 := HC.out.2.2.2.1.kept hgC (fun q hq => by cases hq; exact .inr (Nat.le_refl _))
      have hP6 := HC.out.2.2.2.2.1.kept hgC (by have := HC.out.2.2.2.2.1.block.2; simp; omega)
      have hb6 := HC.out.2.2.2.2.2.1.grown hgC HC.out.2.2.2.2.2.1.size (fun q hq => by cases hq; exact HC.out.2.2.2.2.2.1.size)
      have hsz6 := hg6.size
      have hlt6 : W1.heap.size < wC.heap.size := by
        obtain ⟨xs, hbx, _⟩ := HC.out.2.2.2.1
        exact hbx.block.2
      have hgF : W1.heap.size ≠ wC.heap.size := by omega
      have hgF' : wC.heap.size ≠ W1.heap.size := by omega
      obtain ⟨z0, e0, f0⟩ := hF6.cells (i * 3) (by omega)
      obtain ⟨z1, e1, f1⟩ := hF6.cells (i * 3 + 1) (by omega)
      obtain ⟨z2, e2, f2⟩ := hF6.cells (i * 3 + 2) (by omega)
      have p1 := hB6.cell 1 (by simp)
      have hlI : (subL us (args.take i)).length = i := by rw [subL_length, List.length_take]; omega
      have hx6 : TpC (cut w6 (fun b => W1.heap.size ≤ b ∧ b ≠ W1.heap.size)) (n + m) [.int .i64 k1, .int .i64 u1, .slice a1 m1 c1] (cp us args[i] 200).1 := hx.kept fun _ _ h => cut_le (fun b hb => by simp only [World.size_alloc] at hb; exact ⟨by omega, by omega⟩) _ _ h
      have hcp := cp_ok us args[i] 200 (by omega)
      have hfill := hF6.store (x := (cp us args[i] 200).1) (by rw [hlI]; exact hlt) hx6
      rw [hlI] at hfill
      have hGs := grown_trans (grown_trans (grown_set w6 W1.heap.size (i * 3) (.int .i64 k1)) (grown_set _ W1.heap.size (i * 3 + 1) (.int .i64 u1))) (grown_set _ W1.heap.size (i * 3 + 2) (.slice a1 m1 c1))
      have hP9 := hP6.kept hGs (by simp; omega)
      have hb9 := hb6.grown hGs hb6.size (fun q hq => by cases hq; omega)
      have hsz9 := hGs.size
      by_cases hbig : size (sub us args[i]) ≤ 200
      · have hval := hcp.1 (by omega)
        have hL9 : ¬ (200 - (size (sub us args[i]) : Int)) < 0 := by omega
        rw [hval] at p1 hfill
        have HF := Lib.hid (And.intro hfill (And.intro hP9 (And.intro hb9 (And.intro (show W1.heap.size ≤ _ from Nat.le_trans (Nat.le_of_lt (Nat.lt_of_lt_of_le hlt6 (Nat.le_trans hgC.size (Nat.le_refl _)))) hsz9) (show ∀ j (h : j < args.length), j < i + 1 → size (sub us args[j]) ≤ 200 from fun j h hj => by
          by_cases e : j = i
          · subst e; exact hbig
          · exact HC.out.2.2.2.2.2.2 j h (by omega))))))
        obtain ⟨Z, hZ⟩ : ∃ Z, (200 - (size (sub us args[i]) : Int)) = Z := ⟨_, rfl⟩
        simp only at p1
        rw [hZ] at p1 hL9
        clear hg6 hB6 hx hgC hF6 hP6 hb6 hsz6 hlI hx6 hcp hfill hGs hP9 hb9 hsz9 hval hZ
        go_wp2_with fail
        go_roundw
        case rel => exact ⟨i + 1, by omega, by go_num, Lib.hid HF.out.2.2.2.2, HF.out.2.2.1, HF.out.2.1, HF.out.2.2.2.1, by rw [List.take_succ_eq_append_getElem hlt, subL_append]; exact HF.out.1⟩
        case measure => simp [intOf] <;> omega
      · have hneg := hcp.2 (by omega)
        have hN : R = none := by
          rw [HE.out.1, if_neg]
          intro h
          exact hbig (of_decide_eq_true (List.all_eq_true.1 h _ (List.getElem_mem hlt)))
        have hfin : FieldsP l (.mk k uN us) cN (n + m) w (.returned (.tuple #[.slice none 0 0, .bool false])) _ := .none (HE.out.2.1.trans hN) hb9
        have HF := Lib.hid hfin
        obtain ⟨Z, hZ⟩ : ∃ Z, (cp us args[i] 200).2 = Z := ⟨_, rfl⟩
        rw [hZ] at p1 hneg
        clear hg6 hB6 hx hgC hF6 hP6 hb6 hsz6 hlI hx6 hcp hfill hGs hP9 hb9 hsz9 hZ hfin hN
        go_wp2_with fail
        go_ret2
        exact HF.out
    · obtain rfl : i = args.length := by omega
      rw [List.take_length] at hF
      have hlen := subL_length us args
      have hfin : FieldsP l (.mk k uN us) cN (n + m) w (.returned (.tuple #[.slice (some ⟨W1.heap.size, 0, none⟩) args.length args.length, .bool true])) wC := by
        refine ⟨_, _, rfl, hb, ?_⟩
        unfold FieldsR
        rw [HE.out.2.1, HE.out.1, if_pos (List.all_eq_true.2 fun t ht => by
          obtain ⟨j, hj, rfl⟩ := List.getElem_of_mem ht
          exact decide_eq_true (hall.out j hj hj))]
        refine ⟨rfl, ?_⟩
        have := hF
        rw [← hlen] at this ⊢
        exact (this.tps (by rw [hlen]; omega)).kept (cut_le fun b h => by have h1 : W1.heap.size ≤ b := h; omega)
      have HF := Lib.hid hfin
      clear hfin hF hb hP hall hlt hlen
      go_wp2_with fail
      go_ret2
      exact HF.out
end Go.Proofs.Ytkobfnpkebgmjaa
