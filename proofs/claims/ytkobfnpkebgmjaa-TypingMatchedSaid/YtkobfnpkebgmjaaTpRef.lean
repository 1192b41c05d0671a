/-
  The walks of amortcostref6.copied, Subst, Size: what is made lies in new memory and reads as the pure function says. Conditions: the trees have at most 1000000 nodes.
-/
import Derived.Test.YtkobfnpkebgmjaaTpKeep
import Derived.Test.YtkobfnpkebgmjaaGrow
import Derived.Lib.Hide
namespace Go.Proofs.Ytkobfnpkebgmjaa
open Go.RowKit Go.Deep

/-- A row of types that the call itself made: its cells in triples, read apart from the row's own block. -/
def TpOwn (w : World) (B : Nat) (n : Nat) (v : Value) (l : List Tp) : Prop :=
  ∃ xs, w.ownsRow B 25 3 v l.length xs ∧ ∀ i (h : i < l.length), ∃ t0 t1 t2, xs[i * 3]? = some t0 ∧ xs[i * 3 + 1]? = some t1 ∧ xs[i * 3 + 2]? = some t2 ∧
    TpC (cut w (fun b => B ≤ b ∧ some b ≠ v.ownBlock)) n [t0, t1, t2] l[i]
theorem TpOwn.nil (w : World) (B n : Nat) : TpOwn w B n (.slice none 0 0) [] := ⟨[], World.ownsRow_nil _ _ _ _, fun i h => absurd h (by simp)⟩
theorem TpOwn.kept {w w' : World} {B n : Nat} {v : Value} {l : List Tp} {row : Option Nat} (h : TpOwn w B n v l) (hg : w.grownBy w' row) (hrow : ∀ k, row = some k → k < B ∨ w.heap.size ≤ k) : TpOwn w' B n v l := by
  obtain ⟨xs, ho, he⟩ := h
  refine ⟨xs, ho.kept hg ?_, fun i hi => ?_⟩
  · cases hv : v.ownBlock with
    | none => exact .inl rfl
    | some k =>
      refine .inr fun e => ?_
      have h1 := ho.lt k hv
      rcases hrow k e.symm with h | h <;> omega
  · obtain ⟨t0, t1, t2, h0, h1, h2, ht⟩ := he i hi
    refine ⟨t0, t1, t2, h0, h1, h2, ht.kept fun a u k => cut_grown hg (fun b hb hs => ⟨hs, fun e => ?_⟩) a u k⟩
    rcases hrow b e.symm with h | h
    · have := hs.1; omega
    · omega
theorem TpOwn.below {w w' : World} {B n : Nat} {v : Value} {l : List Tp} (h : TpOwn w B n v l) (hb : Below w.heap.size w w') : TpOwn w' B n v l :=
  h.kept (row := none) ⟨hb.os, hb.tape, hb.output, hb.size, fun k hk _ => hb.block k hk⟩ (by simp)
/-- The row as a slice of trees. -/
theorem TpOwn.tps {w : World} {B n : Nat} {v : Value} {l : List Tp} (h : TpOwn w B n v l) : TpsC (cut w (fun b => B ≤ b)) n v l := by
  obtain ⟨xs, ho, he⟩ := h
  have ho' := ho
  obtain ⟨hx, hv⟩ := ho
  rcases hv with ⟨rfl, hn⟩ | ⟨g, cap, cur, rfl, hB, hg, hc, hm, hs, ht⟩
  · obtain rfl : l = [] := List.eq_nil_of_length_eq_zero hn
    exact RowC.nil _ _ _
  · refine ⟨some ⟨g, 0, none⟩, cap, rfl, hc, by unfold maxLen at hm; omega, fun i hi => ?_⟩
    obtain ⟨t0, t1, t2, h0, h1, h2, ht⟩ := he i hi
    refine ⟨g, 0, [t0, t1, t2], rfl, rfl, fun j hj => ?_, ht.kept (cut_le fun b h => h.1)⟩
    have hk : ∀ m u, xs[m]? = some u → cut w (fun b => B ≤ b) ⟨g, 0 + m, none⟩ = some u := fun m u h => by
      have hml : m < xs.length := by
        rcases Nat.lt_or_ge m xs.length with h' | h'
        · exact h'
        · rw [List.getElem?_eq_none h'] at h; cases h
      have := World.ownsRow.cellAt ho' m (by rw [← hx]; exact hml)
      refine cut_some.2 ⟨hB, ?_⟩
      rw [Nat.zero_add, this]
      exact h
    match j, hj with
    | 0, _ => exact hk _ _ h0
    | 1, _ => rw [show 0 + i * 3 + 1 = 0 + (i * 3 + 1) by omega]; exact hk _ _ h1
    | 2, _ => rw [show 0 + i * 3 + 2 = 0 + (i * 3 + 2) by omega]; exact hk _ _ h2
theorem own_len {w : World} {B n : Nat} {v : Value} {l : List Tp} (h : TpOwn w B n v l) : ∀ k, v.ownBlock = some k → B ≤ k ∧ k < w.heap.size := by
  obtain ⟨xs, ho, _⟩ := h
  exact ho.lt
/-- One more element. -/
theorem TpOwn.append (w : World) (B n : Nat) (ty : TypeId) (v : Value) (l : List Tp) (hO : TpOwn w B n v l) (a : Addr) (c : Nat) (t0 t1 t2 : Value) (x : Tp)
    (hnews : ∀ j u, [t0, t1, t2][j]? = some u → w.cell? (a.add j) = some u) (hx : TpC (cut w (fun b => B ≤ b ∧ some b ≠ v.ownBlock)) n [t0, t1, t2] x) (hl : l.length ≤ 1000000) (hB : B ≤ w.heap.size) :
    ∃ v' w', (Builtin.append_ #[23, 23] ty #[v, .slice (some a) 1 c]).run Try.prog w = .ok v' w' ∧ TpOwn w' B n v' (l ++ [x]) ∧ w.grownBy w' v.ownBlock ∧ (v'.ownBlock = v.ownBlock ∨ v'.ownBlock = some w.heap.size) := by
  have hinfo : (Try.prog.info? 25).map (fun i => (i.zero, i.size, i.bytes)) = some (some (.agg #[.int .i64 0, .int .i64 0, .slice none 0 0]), 3, 40) := by kernel_rfl
  obtain ⟨i, hi, hzz⟩ := Option.map_eq_some_iff.1 hinfo
  simp only [Prod.mk.injEq] at hzz
  obtain ⟨hz, hs, hby⟩ := hzz
  have ht : Try.prog.underlying 23 = some (.slice 25) := by kernel_rfl
  obtain ⟨xs, ho, he⟩ := hO
  have h1 : ∀ u ∈ [t0, t1, t2], u.oneCell' = true := by
    obtain ⟨k, u, us⟩ := x
    match n, hx with
    | n + 1, ⟨v2, e, _, _, a2, cap2, e2, _⟩ =>
      simp only [List.cons.injEq, and_true] at e
      obtain ⟨rfl, rfl, rfl⟩ := e
      subst e2
      intro u hu
      simp at hu
      rcases hu with rfl | rfl | rfl <;> rfl
  obtain ⟨v', w', hr, h2, h3, h4⟩ := run_append_new (P := Try.prog) w B 23 ty 25 i _ 3 40 ht hi hz hs hby rfl (by omega) v l.length xs ho a 1 c [t0, t1, t2] rfl hnews h1 (by omega) (by unfold maxLen; omega) (by omega) hB
  refine ⟨v', w', hr, ⟨xs ++ [t0, t1, t2], by simpa using h2, ?_⟩, h3, h4⟩
  have hxs : xs.length = l.length * 3 := ho.1
  have keep : ∀ b, b < w.heap.size → (B ≤ b ∧ some b ≠ v.ownBlock) → (B ≤ b ∧ some b ≠ v'.ownBlock) ∧ some b ≠ v.ownBlock := fun b hb hs => by
    refine ⟨⟨hs.1, fun e => ?_⟩, hs.2⟩
    rcases h4 with h4 | h4
    · exact hs.2 (e.trans h4)
    · rw [h4] at e
      have := Option.some.inj e
      omega
  intro j hj
  rw [List.length_append, List.length_singleton] at hj
  by_cases hlt : j < l.length
  · obtain ⟨u0, u1, u2, g0, g1, g2, ht⟩ := he j hlt
    refine ⟨u0, u1, u2, ?_, ?_, ?_, ?_⟩
    · rw [List.getElem?_append_left (by omega)]; exact g0
    · rw [List.getElem?_append_left (by omega)]; exact g1
    · rw [List.getElem?_append_left (by omega)]; exact g2
    · rw [List.getElem_append_left hlt]
      exact ht.kept fun a u k => cut_grown h3 keep a u k
  · obtain rfl : j = l.length := by omega
    refine ⟨t0, t1, t2, ?_, ?_, ?_, ?_⟩
    · rw [List.getElem?_append_right (by omega), hxs]; simp
    · rw [List.getElem?_append_right (by omega), hxs, show l.length * 3 + 1 - l.length * 3 = 1 by omega]; rfl
    · rw [List.getElem?_append_right (by omega), hxs, show l.length * 3 + 2 - l.length * 3 = 2 by omega]; rfl
    · have e : (l ++ [x])[l.length] = x := by simp
      rw [e]
      exact hx.kept fun a u k => cut_grown h3 keep a u k
theorem wpList_append_tp {ops : Array Oper} {rest : List Oper} {o : Oper} {a : Act} {Q : Exit → Act → World → Prop} {w : World} (hgd : o.guard = none) (s x : Operand)
    (ho : o.op = .call { callee := .builtin .append, args := #[s, x], argTypes := #[23, 23] }) (B n : Nat) (v : Value) (l : List Tp) (hs : a.eval s = v) (hO : TpOwn w B n v l)
    (ad : Addr) (c : Nat) (t0 t1 t2 : Value) (y : Tp) (hx : a.eval x = .slice (some ad) 1 c) (hnews : ∀ j u, [t0, t1, t2][j]? = some u → w.cell? (ad.add j) = some u) (hy : TpC (cut w (fun b => B ≤ b ∧ some b ≠ v.ownBlock)) n [t0, t1, t2] y) (hl : l.length ≤ 1000000) (hB : B ≤ w.heap.size)
    (h : ∀ v' w', TpOwn w' B n v' (l ++ [y]) → w.grownBy w' v.ownBlock → (v'.ownBlock = v.ownBlock ∨ v'.ownBlock = some w.heap.size) → wpList Try.prog ops Q rest (a.put o.dst v') w') : wpList Try.prog ops Q (o :: rest) a w := by
  refine wpList_plain hgd fun K hK => ?_
  obtain ⟨v', w', hrun, h2, h3, h4⟩ := TpOwn.append w B n o.type v l hO ad c t0 t1 t2 y hnews hy hl hB
  unfold Oper.wp execOp
  simp only [ho, resolve, invoke, builtin, Sem.run_bind, Sem.run_pure, Result.andThen_ok, List.map_toArray, List.map_cons, List.map_nil, hs, hx, hrun]
  exact hK _ _ (h v' w' h2 h3 h4)
theorem TpOwn.shape {w : World} {B n : Nat} {v : Value} {l : List Tp} (h : TpOwn w B n v l) : ∃ a c, v = .slice a l.length c ∧ l.length ≤ c ∧ c ≤ 9223372036854775807 := by
  obtain ⟨a, c, e, h1, h2, _⟩ := h.tps
  exact ⟨a, c, e, h1, h2⟩
end Go.Proofs.Ytkobfnpkebgmjaa
