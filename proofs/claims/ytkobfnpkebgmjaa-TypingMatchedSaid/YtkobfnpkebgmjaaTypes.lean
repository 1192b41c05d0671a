/-
  Types as values: trees of kind, number, arguments; what it is to read one at cells; counting, substituting, copying with a limit. No condition.
-/
import Derived.ProofKit
import Derived.OpenShut
import Derived.ShutString
import Derived.ChangeOld
import Derived.Below
import Derived.WalkKit
import Derived.Deep.Strs
import Derived.Laws.AppendOwn
import Derived.Lib.Hide
namespace Go.Proofs.Ytkobfnpkebgmjaa
open Go.ChangeShapes Go.Deep Go.RowKit

theorem add_spot (b o i : Nat) : (⟨b, o, none⟩ : Addr).add i = ⟨b, o + i, none⟩ := by
  unfold Addr.add
  split
  · rename_i h0
    have : i = 0 := by simpa using h0
    subst this
    rfl
  · rfl
/-- A slice whose elements, of m cells each, read as the list's elements; c says what a cell holds. -/
def RowC {α : Type} (c : Addr → Option Value) (m : Nat) (R : List Value → α → Prop) (v : Value) (l : List α) : Prop :=
  ∃ a cap, v = .slice a l.length cap ∧ l.length ≤ cap ∧ cap ≤ 9223372036854775807 ∧
    ∀ i (h : i < l.length), ∃ b o cs, a = some ⟨b, o, none⟩ ∧ cs.length = m ∧ (∀ j, j < m → c ⟨b, o + i * m + j, none⟩ = cs[j]?) ∧ R cs l[i]
theorem RowC.mono {α : Type} {c c' : Addr → Option Value} {m : Nat} {R R' : List Value → α → Prop} {v : Value} {l : List α} (h : RowC c m R v l) (hc : ∀ a u, c a = some u → c' a = some u) (hR : ∀ cs x, x ∈ l → R cs x → R' cs x) : RowC c' m R' v l := by
  obtain ⟨a, cap, e, h1, h2, h3⟩ := h
  refine ⟨a, cap, e, h1, h2, fun i hi => ?_⟩
  obtain ⟨b, o, cs, ea, hl, hcs, hr⟩ := h3 i hi
  refine ⟨b, o, cs, ea, hl, fun j hj => ?_, hR _ _ (List.getElem_mem hi) hr⟩
  have h := hcs j hj
  rw [List.getElem?_eq_getElem (by omega)] at h ⊢
  exact hc _ _ h
theorem RowC.nil {α : Type} (c : Addr → Option Value) (m : Nat) (R : List Value → α → Prop) : RowC c m R (.slice none 0 0) [] :=
  ⟨none, 0, rfl, Nat.le_refl _, by omega, fun i hi => absurd hi (by simp)⟩

/-- A type: its kind, its number, its arguments. -/
inductive Tp where
  | mk (kind num : Int) (args : List Tp)
instance : Inhabited Tp := ⟨.mk 0 0 []⟩
def i64 (n : Int) : Prop := -9223372036854775808 ≤ n ∧ n ≤ 9223372036854775807

/-- Three cells read as a type of at most so many levels. -/
def TpC (c : Addr → Option Value) : Nat → List Value → Tp → Prop
  | 0, _, _ => False
  | n + 1, cs, .mk k u us => ∃ v, cs = [.int .i64 k, .int .i64 u, v] ∧ i64 k ∧ i64 u ∧ RowC c 3 (TpC c n) v us
theorem TpC.up {c : Addr → Option Value} : ∀ {n : Nat} {cs : List Value} {t : Tp}, TpC c n cs t → TpC c (n + 1) cs t
  | _ + 1, _, .mk _ _ _, ⟨v, e, h1, h2, h3⟩ => ⟨v, e, h1, h2, h3.mono (fun _ _ h => h) fun _ _ _ h => h.up⟩
theorem TpC.le {c : Addr → Option Value} {n m : Nat} {cs : List Value} {t : Tp} (h : TpC c n cs t) (hm : n ≤ m) : TpC c m cs t := by
  induction hm with
  | refl => exact h
  | step _ ih => exact ih.up
theorem TpC.kept {c c' : Addr → Option Value} (hc : ∀ a u, c a = some u → c' a = some u) : ∀ {n : Nat} {cs : List Value} {t : Tp}, TpC c n cs t → TpC c' n cs t
  | _ + 1, _, .mk _ _ _, ⟨v, e, h1, h2, h3⟩ => ⟨v, e, h1, h2, h3.mono hc fun _ _ _ h => h.kept hc⟩

/-- The cells of the blocks that S admits. -/
noncomputable def cut (w : World) (S : Nat → Prop) (a : Addr) : Option Value := open Classical in if S a.block then w.cell? a else none
theorem cut_some {w : World} {S : Nat → Prop} {a : Addr} {u : Value} : cut w S a = some u ↔ S a.block ∧ w.cell? a = some u := by
  unfold cut
  split <;> simp_all
theorem cut_cell {w : World} {S : Nat → Prop} (a : Addr) (u : Value) (h : cut w S a = some u) : w.cell? a = some u := (cut_some.1 h).2
theorem cut_le {w : World} {S T : Nat → Prop} (h : ∀ b, S b → T b) (a : Addr) (u : Value) (k : cut w S a = some u) : cut w T a = some u := cut_some.2 ⟨h _ (cut_some.1 k).1, (cut_some.1 k).2⟩
/-- Cells stay where they are not in the row that grew. -/
theorem cut_grown {w w' : World} {row : Option Nat} (hg : w.grownBy w' row) {S T : Nat → Prop} (h : ∀ b, b < w.heap.size → S b → T b ∧ some b ≠ row) (a : Addr) (u : Value) (k : cut w S a = some u) : cut w' T a = some u := by
  obtain ⟨h1, h2⟩ := cut_some.1 k
  have h3 := h a.block (World.block_lt_of_cell? w _ h2) h1
  exact cut_some.2 ⟨h3.1, hg.cell h2 h3.2⟩
theorem cell_below {w w' : World} {a : Addr} {v : Value} (hb : Below w.heap.size w w') (h : w.cell? a = some v) : w'.cell? a = some v :=
  (hb.cell (World.block_lt_of_cell? w _ h)).trans h
theorem cut_below {w w' : World} (hb : Below w.heap.size w w') {S T : Nat → Prop} (h : ∀ b, S b → T b) (a : Addr) (u : Value) (k : cut w S a = some u) : cut w' T a = some u :=
  cut_some.2 ⟨h _ (cut_some.1 k).1, cell_below hb (cut_some.1 k).2⟩

mutual
/-- How many nodes. -/
def size : Tp → Nat
  | .mk _ _ us => 1 + sizeL us
def sizeL : List Tp → Nat
  | [] => 0
  | t :: ts => size t + sizeL ts
end
theorem size_pos : ∀ t : Tp, 1 ≤ size t
  | .mk _ _ us => by rw [size]; omega
theorem sizeL_drop {us : List Tp} {i : Nat} (h : i < us.length) : sizeL (us.drop i) = size us[i] + sizeL (us.drop (i + 1)) := by
  rw [List.drop_eq_getElem_cons h, sizeL]
theorem size_mem {t : Tp} : ∀ {us : List Tp}, t ∈ us → size t ≤ sizeL us
  | _ :: _, h => by
    rw [sizeL]
    rcases List.mem_cons.1 h with rfl | h
    · omega
    · have := size_mem h; omega
theorem length_sizeL : ∀ us : List Tp, us.length ≤ sizeL us
  | [] => Nat.le_refl _
  | t :: ts => by
    have := length_sizeL ts
    have := size_pos t
    rw [sizeL, List.length_cons]
    omega

/-- The type in the place of a node, if one stands there: a variable with a number below the list's length. -/
def hit (as : List Tp) (k u : Int) : Option Tp := if k = 4 ∧ 0 ≤ u then as[u.toNat]? else none
theorem hit_nil (k u : Int) : hit [] k u = none := by unfold hit; split <;> simp
mutual
/-- Substitution. -/
def sub (as : List Tp) : Tp → Tp
  | .mk k u us => (hit as k u).getD (.mk k u (subL as us))
def subL (as : List Tp) : List Tp → List Tp
  | [] => []
  | t :: ts => sub as t :: subL as ts
end
theorem subL_length (as : List Tp) : ∀ us, (subL as us).length = us.length
  | [] => rfl
  | t :: ts => by rw [subL, List.length_cons, List.length_cons, subL_length as ts]
theorem subL_getElem (as : List Tp) : ∀ (us : List Tp) (i : Nat) (h : i < us.length) (h' : i < (subL as us).length), (subL as us)[i] = sub as us[i]
  | t :: ts, 0, _, _ => by simp [subL]
  | t :: ts, i + 1, h, h' => by
    simp only [subL, List.getElem_cons_succ]
    exact subL_getElem as ts i (by simpa using h) _
mutual
theorem sub_nil : ∀ t : Tp, sub [] t = t
  | .mk k u us => by rw [sub, hit_nil, subL_nil us]; rfl
theorem subL_nil : ∀ us : List Tp, subL [] us = us
  | [] => rfl
  | t :: ts => by rw [subL, sub_nil t, subL_nil ts]
end
theorem hit_mem {as : List Tp} {k u : Int} {t : Tp} (h : hit as k u = some t) : t ∈ as := by
  unfold hit at h
  split at h
  · exact List.mem_of_getElem? h
  · simp at h
mutual
theorem size_sub (as : List Tp) (M : Nat) (hM : ∀ t ∈ as, size t ≤ M) (h1 : 1 ≤ M) : ∀ t : Tp, size (sub as t) ≤ size t * M
  | .mk k u us => by
    rw [sub, size]
    have h2 := sizeL_sub as M hM h1 us
    cases h : hit as k u with
    | none =>
      show size (.mk k u (subL as us)) ≤ _
      rw [size, Nat.add_mul]
      omega
    | some t =>
      have := hM t (hit_mem h)
      show size t ≤ _
      rw [Nat.add_mul]
      omega
theorem sizeL_sub (as : List Tp) (M : Nat) (hM : ∀ t ∈ as, size t ≤ M) (h1 : 1 ≤ M) : ∀ us : List Tp, sizeL (subL as us) ≤ sizeL us * M
  | [] => by rw [subL, sizeL]; omega
  | t :: ts => by
    have h2 := size_sub as M hM h1 t
    have h3 := sizeL_sub as M hM h1 ts
    rw [subL, sizeL, sizeL, Nat.add_mul]
    omega
end

mutual
/-- A copy with a limit, without a list: the copy and what is left of the limit. -/
def cp0 : Tp → Int → Tp × Int
  | .mk k u us, L => (.mk k u (cp0L us (L - 1)).1, (cp0L us (L - 1)).2)
def cp0L : List Tp → Int → List Tp × Int
  | [], L => ([], L)
  | t :: ts, L => if L < 0 then ([], L) else ((cp0 t L).1 :: (cp0L ts (cp0 t L).2).1, (cp0L ts (cp0 t L).2).2)
end
mutual
/-- A copy with a limit. -/
def cp (as : List Tp) : Tp → Int → Tp × Int
  | .mk k u us, L => match hit as k u with
    | some t => cp0 t L
    | none => (.mk k u (cpL as us (L - 1)).1, (cpL as us (L - 1)).2)
def cpL (as : List Tp) : List Tp → Int → List Tp × Int
  | [], L => ([], L)
  | t :: ts, L => if L < 0 then ([], L) else ((cp as t L).1 :: (cpL as ts (cp as t L).2).1, (cpL as ts (cp as t L).2).2)
end
mutual
theorem cp_nil : ∀ (t : Tp) (L : Int), cp [] t L = cp0 t L
  | .mk k u us, L => by rw [cp, hit_nil, cp0, cpL_nil us]
theorem cpL_nil : ∀ (us : List Tp) (L : Int), cpL [] us L = cp0L us L
  | [], L => by rw [cpL, cp0L]
  | t :: ts, L => by rw [cpL, cp0L, cp_nil t, cpL_nil ts]
end
mutual
theorem cp_bound (as : List Tp) : ∀ (t : Tp) (L : Int), 0 ≤ L → -1 ≤ (cp as t L).2 ∧ (cp as t L).2 ≤ L
  | .mk k u us, L, h => by
    rw [cp]
    cases hh : hit as k u with
    | none =>
      have := cpL_bound as us (L - 1) (by omega)
      exact ⟨this.1, by have := this.2; show (cpL as us (L - 1)).2 ≤ L; omega⟩
    | some t => exact cp0_bound t L h
theorem cpL_bound (as : List Tp) : ∀ (us : List Tp) (L : Int), -1 ≤ L → -1 ≤ (cpL as us L).2 ∧ (cpL as us L).2 ≤ L
  | [], L, h => by rw [cpL]; exact ⟨h, Int.le_refl _⟩
  | t :: ts, L, h => by
    rw [cpL]
    split
    · exact ⟨h, Int.le_refl _⟩
    · have h1 := cp_bound as t L (by omega)
      have h2 := cpL_bound as ts (cp as t L).2 h1.1
      exact ⟨h2.1, Int.le_trans h2.2 h1.2⟩
theorem cp0_bound : ∀ (t : Tp) (L : Int), 0 ≤ L → -1 ≤ (cp0 t L).2 ∧ (cp0 t L).2 ≤ L
  | .mk k u us, L, h => by
    rw [cp0]
    have := cp0L_bound us (L - 1) (by omega)
    exact ⟨this.1, by have := this.2; show (cp0L us (L - 1)).2 ≤ L; omega⟩
theorem cp0L_bound : ∀ (us : List Tp) (L : Int), -1 ≤ L → -1 ≤ (cp0L us L).2 ∧ (cp0L us L).2 ≤ L
  | [], L, h => by rw [cp0L]; exact ⟨h, Int.le_refl _⟩
  | t :: ts, L, h => by
    rw [cp0L]
    split
    · exact ⟨h, Int.le_refl _⟩
    · have h1 := cp0_bound t L (by omega)
      have h2 := cp0L_bound ts (cp0 t L).2 h1.1
      exact ⟨h2.1, Int.le_trans h2.2 h1.2⟩
end
/-- Enough is left: the copy is whole. Else what is left is below 0. -/
def CpOk (r : Tp × Int) (t : Tp) (L : Int) : Prop := ((size t : Int) ≤ L → r = (t, L - size t)) ∧ (L < size t → r.2 < 0)
def CpOkL (r : List Tp × Int) (t : List Tp) (L : Int) : Prop := ((sizeL t : Int) ≤ L → r = (t, L - sizeL t)) ∧ (L < sizeL t → r.2 < 0)
mutual
theorem cp0_ok : ∀ (t : Tp) (L : Int), 0 ≤ L → CpOk (cp0 t L) t L
  | .mk k u us, L, h => by
    rw [cp0]
    have ih := cp0L_ok us (L - 1) (by omega)
    refine ⟨fun hs => ?_, fun hs => ?_⟩
    · rw [size] at hs ⊢
      rw [ih.1 (by omega)]
      simp only [Prod.mk.injEq, true_and]
      omega
    · rw [size] at hs
      exact ih.2 (by omega)
theorem cp0L_ok : ∀ (us : List Tp) (L : Int), -1 ≤ L → CpOkL (cp0L us L) us L
  | [], L, h => by
    rw [cp0L]
    exact ⟨fun _ => by simp [sizeL], fun hs => by simpa [sizeL] using hs⟩
  | t :: ts, L, h => by
    rw [cp0L]
    have hp := size_pos t
    split
    · rename_i hn
      exact ⟨fun hs => by rw [sizeL] at hs; omega, fun _ => hn⟩
    · have h1 := cp0_ok t L (by omega)
      have hb := cp0_bound t L (by omega)
      have h2 := cp0L_ok ts (cp0 t L).2 hb.1
      refine ⟨fun hs => ?_, fun hs => ?_⟩
      · rw [sizeL] at hs ⊢
        rw [h1.1 (by omega)] at h2 ⊢
        rw [h2.1 (by simp only; omega)]
        simp only [Prod.mk.injEq, true_and]
        omega
      · rw [sizeL] at hs
        by_cases hc : (size t : Int) ≤ L
        · rw [h1.1 hc] at h2 ⊢
          exact h2.2 (by simp only; omega)
        · have := h1.2 (by omega)
          have := (cp0L_bound ts (cp0 t L).2 hb.1).2
          show (cp0L ts (cp0 t L).2).2 < 0
          omega
end
mutual
theorem cp_ok (as : List Tp) : ∀ (t : Tp) (L : Int), 0 ≤ L → CpOk (cp as t L) (sub as t) L
  | .mk k u us, L, h => by
    rw [cp, sub]
    cases hh : hit as k u with
    | none =>
      show CpOk (Tp.mk k u (cpL as us (L - 1)).1, (cpL as us (L - 1)).2) (.mk k u (subL as us)) L
      have ih := cpL_ok as us (L - 1) (by omega)
      refine ⟨fun hs => ?_, fun hs => ?_⟩
      · rw [size] at hs ⊢
        rw [ih.1 (by omega)]
        simp only [Prod.mk.injEq, true_and]
        omega
      · rw [size] at hs
        exact ih.2 (by omega)
    | some t => exact cp0_ok t L h
theorem cpL_ok (as : List Tp) : ∀ (us : List Tp) (L : Int), -1 ≤ L → CpOkL (cpL as us L) (subL as us) L
  | [], L, h => by
    rw [cpL, subL]
    exact ⟨fun _ => by simp [sizeL], fun hs => by simpa [sizeL] using hs⟩
  | t :: ts, L, h => by
    rw [cpL, subL]
    have hp := size_pos (sub as t)
    split
    · rename_i hn
      exact ⟨fun hs => by rw [sizeL] at hs; omega, fun _ => hn⟩
    · have h1 := cp_ok as t L (by omega)
      have hb := cp_bound as t L (by omega)
      have h2 := cpL_ok as ts (cp as t L).2 hb.1
      refine ⟨fun hs => ?_, fun hs => ?_⟩
      · rw [sizeL] at hs ⊢
        rw [h1.1 (by omega)] at h2 ⊢
        rw [h2.1 (by simp only; omega)]
        simp only [Prod.mk.injEq, true_and]
        omega
      · rw [sizeL] at hs
        by_cases hc : (size (sub as t) : Int) ≤ L
        · rw [h1.1 hc] at h2 ⊢
          exact h2.2 (by simp only; omega)
        · have := h1.2 (by omega)
          have := (cpL_bound as ts (cp as t L).2 hb.1).2
          show (cpL as ts (cp as t L).2).2 < 0
          omega
end
theorem cp0L_drop {us : List Tp} {i : Nat} (h : i < us.length) (L : Int) : cp0L (us.drop i) L = if L < 0 then ([], L) else ((cp0 us[i] L).1 :: (cp0L (us.drop (i + 1)) (cp0 us[i] L).2).1, (cp0L (us.drop (i + 1)) (cp0 us[i] L).2).2) := by
  rw [List.drop_eq_getElem_cons h, cp0L]
theorem cpL_drop (as : List Tp) {us : List Tp} {i : Nat} (h : i < us.length) (L : Int) : cpL as (us.drop i) L = if L < 0 then ([], L) else ((cp as us[i] L).1 :: (cpL as (us.drop (i + 1)) (cp as us[i] L).2).1, (cpL as (us.drop (i + 1)) (cp as us[i] L).2).2) := by
  rw [List.drop_eq_getElem_cons h, cpL]

mutual
/-- What typ answers, and what is left of the count. -/
def tpT : Tp → Int → Bool × Int
  | .mk _ _ us, L => if L - 1 < 0 then (false, L - 1) else tpL us (L - 1)
def tpL : List Tp → Int → Bool × Int
  | [], L => (true, L)
  | t :: ts, L => if (tpT t L).1 then tpL ts (tpT t L).2 else (false, (tpT t L).2)
end
mutual
theorem tpT_bound : ∀ (t : Tp) (L : Int), 0 ≤ L → (-1 ≤ (tpT t L).2 ∧ (tpT t L).2 ≤ L) ∧ ((tpT t L).1 = true → (tpT t L).2 = L - size t ∧ (size t : Int) ≤ L)
  | .mk _ _ us, L, h => by
    unfold tpT
    split
    · exact ⟨⟨by simp; omega, by simp; omega⟩, fun h => by simp at h⟩
    · have := tpL_bound us (L - 1) (by omega)
      exact ⟨⟨this.1.1, by omega⟩, fun hb => by have := this.2 hb; rw [size]; omega⟩
theorem tpL_bound : ∀ (ts : List Tp) (L : Int), 0 ≤ L → (-1 ≤ (tpL ts L).2 ∧ (tpL ts L).2 ≤ L) ∧ ((tpL ts L).1 = true → (tpL ts L).2 = L - sizeL ts ∧ (sizeL ts : Int) ≤ L)
  | [], L, h => ⟨⟨by simp [tpL]; omega, by simp [tpL]⟩, fun _ => by simp [tpL, sizeL, h]⟩
  | t :: ts, L, h => by
    have h1 := tpT_bound t L h
    unfold tpL
    split
    · rename_i hb
      have h3 := h1.2 hb
      have h2 := tpL_bound ts (tpT t L).2 (by omega)
      exact ⟨⟨h2.1.1, by omega⟩, fun hb => by have := h2.2 hb; rw [sizeL]; omega⟩
    · exact ⟨h1.1, fun h => by simp at h⟩
end
theorem tpL_drop {us : List Tp} {i : Nat} (h : i < us.length) (L : Int) : tpL (us.drop i) L = if (tpT us[i] L).1 then tpL (us.drop (i + 1)) (tpT us[i] L).2 else (false, (tpT us[i] L).2) := by
  rw [List.drop_eq_getElem_cons h, tpL]

section
variable {H : Type} {enc : TypeId × Value → H} {P : Program} {w : World} {sp : Nat → Bool} {held : Bool}
/-- An argument's slice, opened. -/
theorem row_open {α : Type} [Inhabited α] {R : List Value → α → Prop} {m fuel : Nat} {e t : TypeId} {v : Value} {x : DataW H × List MemPlace} (ht : P.underlying t = some (.slice e)) (hm : P.cellsOf e = m) (hm0 : 0 < m) (h : DataW.trod enc P w 0 sp held fuel t [v] = some x)
    (hR : ∀ n, fuel = n + 1 → ∀ cs y, DataW.trod enc P w 0 sp held n e cs = some y → ∃ q, R cs q) : ∃ l, RowC w.cell? m R v l := by
  rcases DataW.trod_slice ht h with ⟨hcs, _⟩ | ⟨a, len, cap, elems, rest, n, hn, hcs, _, _, hl, hc, hel, hi, _, _⟩
  · simp at hcs
    subst hcs
    exact ⟨[], RowC.nil _ _ _⟩
  · simp at hcs
    subst hcs
    rw [hm] at hi
    have hsp : 0 < len → a.spot = none := fun h0 => by
      have h1 := hi 0 h0
      rw [List.getElem?_eq_getElem (by omega)] at h1
      obtain ⟨cs, hcs, _⟩ := Option.bind_eq_some_iff.1 h1
      obtain ⟨_, hlen, hcell⟩ := World.cells?_some hcs
      have h2 := hcell 0 hm0
      rw [List.getElem?_eq_getElem (by omega), Nat.zero_mul] at h2
      exact World.cell?_spot (a := a) h2
    have each : ∀ i, ∃ q, i < len → ∃ b o cs, some a = some ⟨b, o, none⟩ ∧ cs.length = m ∧ (∀ j, j < m → w.cell? ⟨b, o + i * m + j, none⟩ = cs[j]?) ∧ R cs q := fun i => by
      by_cases hlt : i < len
      · have h1 := hi i hlt
        rw [List.getElem?_eq_getElem (by omega)] at h1
        obtain ⟨cs, hcs, htr⟩ := Option.bind_eq_some_iff.1 h1
        obtain ⟨_, hlen, hcell⟩ := World.cells?_some hcs
        obtain ⟨q, hq⟩ := hR n hn cs _ htr
        refine ⟨q, fun _ => ?_⟩
        obtain ⟨b, o, s⟩ := a
        obtain rfl : s = none := hsp (by omega)
        refine ⟨b, o, cs, rfl, hlen, fun j hj => ?_, hq⟩
        have := hcell j hj
        rw [add_spot, add_spot] at this
        exact this
      · exact ⟨default, fun h => absurd h hlt⟩
    refine ⟨(List.range len).map fun i => Classical.choose (each i), some a, cap, by simp, by simpa using hl, by unfold maxLen at hc; omega, fun i hlt => ?_⟩
    have hlt' : i < len := by simpa using hlt
    obtain ⟨b, o, cs, h1, h2, h3, h4⟩ := Classical.choose_spec (each i) hlt'
    refine ⟨b, o, cs, h1, h2, h3, ?_⟩
    simpa using h4
end
end Go.Proofs.Ytkobfnpkebgmjaa
