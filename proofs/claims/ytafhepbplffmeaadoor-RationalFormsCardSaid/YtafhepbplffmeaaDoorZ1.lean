/-
  'append(own, make([]uint32, m)...)': the own row with m zeros behind it. Condition: the sum of the lengths is small.
-/
import Derived.Test.YtafhepbplffmeaaDoorBase
import Derived.Laws.OwnMore
namespace Go.Proofs.YtafhepbplffmeaaDoor
open Go.RowKit Num

theorem zeroCells_u32 (m : Nat) : Builtin.zeroCells #[Value.int .u32 0] m = (List.replicate m (Value.int .u32 0)).toArray := by
  unfold Builtin.zeroCells
  apply Array.ext
  · simp
  · intro i h1 h2
    have e : i % 1 = 0 := Nat.mod_one i
    simp [e]
theorem lims_zeros (m : Nat) : lims (List.replicate m 0) = List.replicate m (Value.int .u32 0) := by simp [lims]

theorem wrap_m (m : Nat) (h : m ≤ 1000) : IntKind.i64.wrap (m : Int) = m := by rw [IntKind.wrap_i64]; omega
def zc (m : Nat) : Array Value := Builtin.zeroCells (Value.int .u32 0).cells m
theorem zc_list (m : Nat) : (zc m).toList = List.replicate m (Value.int .u32 0) := by
  have h : zc m = (List.replicate m (Value.int .u32 0)).toArray := zeroCells_u32 m
  rw [h]
theorem zc_size (m : Nat) : (zc m).size = m := by
  have := congrArg List.length (zc_list m)
  simpa using this

theorem run_zeros_nil (w : World) (ty : TypeId) (m : Nat) (h0 : 0 < m) (hm : m ≤ 1000) :
    (Builtin.append_ #[22, 3] ty #[.slice none 0 0, .int .i64 m]).run Tryd.prog w =
      .ok (.slice (some ⟨w.heap.size, 0, none⟩) m (grownCap w m 0 32)) (w.drew.alloc (.cells (zc m ++ zc (grownCap w m 0 32 - m)) 32)) := by
  obtain ⟨i, hi, hz, hs, hb⟩ := info_parts Tryd.info32
  have hn : m ≠ 0 := by omega
  have hw := wrap_m m hm
  have h1 : ¬ ((m : Int) < 0) := by omega
  have h2 : ¬ (281474976710656 < (m : Int) * 4) := by omega
  have h63' : ¬ (9223372036854775807 < (m : Int)) := by omega
  have h48' : ¬ (281474976710656 < Builtin.nextslicecap m 0 * 4) := by rw [nextslicecap_zero h0]; omega
  simp [Builtin.append_, run_underlying Tryd.underlying22, run_underlying Tryd.underlying3, sizeOf, typeInfo, zeroValue, hi, hz, hs, hb, asInt, asIntOf, hw, h1, h2, hn, h63', h48', Question.forced, run_firstCells_none, newRow, grownCap, zc]

theorem run_zeros_room (w : World) (ty : TypeId) (g n c m : Nat) (cur : Array Value) (hg : w.heap[g]? = some (.cells cur 32 (0, 0))) (hm : m ≤ 1000) (hroom : n + m ≤ c) (hfit : n + m ≤ cur.size) :
    (Builtin.append_ #[22, 3] ty #[.slice (some ⟨g, 0, none⟩) n c, .int .i64 m]).run Tryd.prog w =
      .ok (.slice (some ⟨g, 0, none⟩) (n + m) c) (w.setRow g (cur.toList.take n ++ List.replicate m (Value.int .u32 0) ++ cur.toList.drop (n + m)).toArray) := by
  obtain ⟨i, hi, hz, hs, hb⟩ := info_parts Tryd.info32
  have hw := wrap_m m hm
  have h1 : ¬ ((m : Int) < 0) := by omega
  have h2 : ¬ (281474976710656 < (m : Int) * 4) := by omega
  have hst := run_storeCells_at Tryd.prog g n 32 (List.replicate m (Value.int .u32 0)) 0 cur w hg (by simpa using hfit) (fun u hu => by rw [(List.mem_replicate.1 hu).2]; rfl)
  simp only [Nat.add_zero, List.length_replicate] at hst
  have hzz := zc_list m
  unfold zc at hzz
  by_cases h0 : m = 0
  · subst h0
    simp only [List.replicate_zero] at hst
    have hw0 : IntKind.i64.wrap 0 = 0 := wrap_m 0 (by omega)
    have hroom0 : n ≤ c := hroom
    simp [hw0, hroom0, Builtin.append_, run_underlying Tryd.underlying22, run_underlying Tryd.underlying3, sizeOf, typeInfo, zeroValue, hi, hz, hs, hb, asInt, asIntOf, Addr.add_lit, hst]
  · simp [Builtin.append_, run_underlying Tryd.underlying22, run_underlying Tryd.underlying3, sizeOf, typeInfo, zeroValue, hi, hz, hs, hb, asInt, asIntOf, hw, h1, h2, hroom, h0, hzz, Addr.add_lit, hst]

theorem run_zeros_grow (w : World) (ty : TypeId) (g n c m : Nat) (olds : List Value) (hlo : olds.length = n) (holds : ∀ j v, olds[j]? = some v → w.cell? ((⟨g, 0, none⟩ : Addr).add j) = some v)
    (hm : m ≤ 1000) (hn : n ≤ 1000000) (hnc : n ≤ c) (hroom : c < n + m) :
    (Builtin.append_ #[22, 3] ty #[.slice (some ⟨g, 0, none⟩) n c, .int .i64 m]).run Tryd.prog w =
      .ok (.slice (some ⟨w.heap.size, 0, none⟩) (n + m) (grownCap w (n + m) c 32)) (w.drew.alloc (.cells (olds.toArray ++ zc m ++ zc (grownCap w (n + m) c 32 - (n + m))) 32)) := by
  obtain ⟨i, hi, hz, hs, hb⟩ := info_parts Tryd.info32
  have hw := wrap_m m hm
  have h1 : ¬ ((m : Int) < 0) := by omega
  have h2 : ¬ (281474976710656 < (m : Int) * 4) := by omega
  have hr : ¬ (n + m ≤ c) := by omega
  have h63' : ¬ (9223372036854775807 < ((n : Int) + (m : Int))) := by omega
  have h48' : ¬ (281474976710656 < Builtin.nextslicecap (n + m) c * 4) := by have := growslice_fits (need := n + m) (old := c) (bytes := 4) (by omega) (by omega); omega
  have hfo := run_firstCells_some (P := Tryd.prog) w.drew 1 n ⟨g, 0, none⟩ n c olds (by omega) (by simpa using holds)
  have h0 : ¬ m = 0 := by omega
  simp [Builtin.append_, run_underlying Tryd.underlying22, run_underlying Tryd.underlying3, sizeOf, typeInfo, zeroValue, hi, hz, hs, hb, asInt, asIntOf, hw, h1, h2, hr, h63', h48', h0, Question.forced, hfo, newRow, grownCap, zc]

theorem run_append_zeros (w : World) (base : Nat) (ty : TypeId) (v : Value) (n m : Nat) (L : List Nat) (hown : w.ownsRow base 32 1 v n (lims L)) (hL : L.length = n) (hm : m ≤ 1000) (hn : n ≤ 1000000) (hbase : base ≤ w.heap.size) :
    ∃ v' w', (Builtin.append_ #[22, 3] ty #[v, .int .i64 m]).run Tryd.prog w = .ok v' w' ∧ w'.ownsRow base 32 1 v' (n + m) (lims (L ++ List.replicate m 0)) ∧ w.grownBy w' v.ownBlock := by
  have hlen : (lims (L ++ List.replicate m 0)).length = (n + m) * 1 := by rw [lims_length, List.length_append, List.length_replicate, hL]; omega
  have hz : lims (L ++ List.replicate m 0) = lims L ++ List.replicate m (Value.int .u32 0) := by rw [← lims_append, lims_zeros]
  have h63 : n + m ≤ maxLen := by unfold maxLen; omega
  rcases hown.2 with ⟨rfl, rfl⟩ | ⟨g, cap, cur, rfl, hbg, hg, hnc, hcm, hcs, htake⟩
  · obtain rfl : L = [] := List.eq_nil_of_length_eq_zero hL
    rcases Nat.eq_zero_or_pos m with rfl | h0
    · refine ⟨.slice none 0 0, w, ?_, World.ownsRow_nil w base 32 1, World.grownBy.refl _ _⟩
      obtain ⟨i, hi, hzr, hs, hb⟩ := info_parts Tryd.info32
      have hw0 : IntKind.i64.wrap 0 = 0 := wrap_m 0 (by omega)
      simp [hw0, Builtin.append_, run_underlying Tryd.underlying22, run_underlying Tryd.underlying3, sizeOf, typeInfo, hi, hb, asInt, asIntOf]
    · have hr := run_zeros_nil w ty m h0 hm
      have hge := grownCap_ge w m 0 32
      refine ⟨_, _, hr, ⟨hlen, .inr ⟨w.heap.size, _, _, by rw [Nat.zero_add], hbase, heap_alloc_new w.drew _, by omega, grownCap_le_maxLen w m 0 32 (by omega), ?_, ?_⟩⟩, ⟨rfl, rfl, rfl, by simp, fun k hk _ => heap_alloc_old w.drew _ hk⟩⟩
      · rw [Array.size_append, zc_size, zc_size]; omega
      · rw [Array.toList_append, zc_list, hz, Nat.zero_add, Nat.mul_one]
        exact List.take_left' (by simp)
  · have htake' : cur.toList.take n = lims L := by rw [Nat.mul_one] at htake; exact htake
    by_cases hroom : n + m ≤ cap
    · have hr := run_zeros_room w ty g n cap m cur hg hm hroom (by omega)
      refine ⟨_, _, hr, ⟨hlen, .inr ⟨g, cap, _, rfl, hbg, setRow_heap w g cur _ 32 _ hg, hroom, hcm, ?_, ?_⟩⟩, ⟨rfl, rfl, rfl, by simp, fun k _ hk => setRow_other w g k _ (fun e => hk (by simp [Value.ownBlock, e]))⟩⟩
      · simp only [List.size_toArray, List.length_append, List.length_take, List.length_drop, Array.length_toList, List.length_replicate]
        omega
      · rw [htake', hz]
        exact List.take_left' (by rw [List.length_append, lims_length, List.length_replicate, hL, Nat.mul_one])
    · have hr := run_zeros_grow w ty g n cap m (lims L) (by rw [lims_length, hL]) (hown.cells (g := g) rfl) hm hn hnc (by omega)
      have hge := grownCap_ge w (n + m) cap 32
      refine ⟨_, _, hr, ⟨hlen, .inr ⟨w.heap.size, _, _, rfl, hbase, heap_alloc_new w.drew _, by omega, grownCap_le_maxLen w (n + m) cap 32 h63, ?_, ?_⟩⟩, ⟨rfl, rfl, rfl, by simp, fun k hk _ => heap_alloc_old w.drew _ hk⟩⟩
      · rw [Array.size_append, Array.size_append, zc_size, zc_size, List.size_toArray, lims_length, hL]; omega
      · rw [Array.toList_append, Array.toList_append, zc_list, hz]
        exact List.take_left' (by rw [List.length_append, lims_length, List.length_replicate, hL, Nat.mul_one])

theorem wpList_append_zeros {w : World} {ops : Array Oper} {rest : List Oper} {o : Oper} {a : Act} {Q : Exit → Act → World → Prop} (hgd : o.guard = none) (s x : Operand)
    (ho : o.op = .call { callee := .builtin .append, args := #[s, x], argTypes := #[22, 3] }) (base : Nat) (v : Value) (n m : Nat) (L : List Nat) (hs : a.eval s = v) (hx : a.eval x = .int .i64 m)
    (hown : w.ownsRow base 32 1 v n (lims L)) (hL : L.length = n) (hm : m ≤ 1000) (hn : n ≤ 1000000) (hbase : base ≤ w.heap.size)
    (h : ∀ v' w', w'.ownsRow base 32 1 v' (n + m) (lims (L ++ List.replicate m 0)) → w.grownBy w' v.ownBlock → wpList Tryd.prog ops Q rest (a.put o.dst v') w') : wpList Tryd.prog ops Q (o :: rest) a w := by
  obtain ⟨v', w', hr, h1, h2⟩ := run_append_zeros w base o.type v n m L hown hL hm hn hbase
  refine wpList_plain hgd fun K hK => ?_
  unfold Oper.wp execOp
  simp only [ho, resolve, invoke, builtin, Sem.run_bind, Sem.run_pure, Result.andThen_ok, List.map_toArray, List.map_cons, List.map_nil, hs, hx, hr]
  exact hK _ _ (h _ _ h1 h2)
end Go.Proofs.YtafhepbplffmeaaDoor
