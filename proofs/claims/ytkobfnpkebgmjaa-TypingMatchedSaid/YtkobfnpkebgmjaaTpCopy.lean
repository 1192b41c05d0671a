/-
  The walk of typing's copier.copy. Conditions: at most 1000000 nodes; what is read lies apart from the copier's own block.
-/
import Derived.Test.YtkobfnpkebgmjaaTpSubst
namespace Go.Proofs.Ytkobfnpkebgmjaa
open Go.RowKit Go.Deep

/-- What copy does, with a list of types for the variables. -/
def CopyP (ls : List Tp) (m n : Nat) : Prop := ∀ (va : Value) (p b o : Nat) (T : Tp) (w : World) (L : Int) (cs : List Value),
  (∀ j, j < 3 → cut w (· ≠ p) ⟨b, o + j, none⟩ = cs[j]?) → cs.length = 3 → TpC (cut w (· ≠ p)) n cs T → TpsC (cut w (· ≠ p)) m va ls → BoxV w 0 p 47 [va, .int .i64 L] → 0 ≤ L → L ≤ 9223372036854775807 → size T ≤ 1000000 →
    Calls Try.prog 18 #[.pointer (some ⟨p, 0, none⟩), .pointer (some ⟨b, o, none⟩)] w (fun e w' => ∃ r, e = .returned r ∧ w.grownBy w' (some p) ∧ BoxV w' 0 p 47 [va, .int .i64 (cp ls T L).2] ∧ AggTp w.heap.size (n + m) (cp ls T L).1 w' r)

/-- The world goes on, and of older memory the block q alone may turn. -/
abbrev Rg (q : Nat) : World → World → Prop := fun w w' => w.grownBy w' (some q)
theorem rg_trans {q : Nat} {W : World} (w w' : World) (h : Rg q W w) (k : Rg q w w') : Rg q W w' := grown_trans h k
theorem rg_refl (q : Nat) (w : World) : Rg q w w := ⟨rfl, rfl, rfl, Nat.le_refl _, fun _ _ _ => rfl⟩
theorem rg_draw (q : Nat) (W : World) : Rg q W { W with drawn := W.drawn + 1 } := ⟨rfl, rfl, rfl, Nat.le_refl _, fun _ _ _ => rfl⟩
theorem rn_refl (w : World) : w.grownBy w none := ⟨rfl, rfl, rfl, Nat.le_refl _, fun _ _ _ => rfl⟩
theorem rn_draw (W : World) : W.grownBy { W with drawn := W.drawn + 1 } none := ⟨rfl, rfl, rfl, Nat.le_refl _, fun _ _ _ => rfl⟩
/-- A type in three cells of a frame, in blocks from lo on and below hi. -/
def AggIn (n : Nat) (x : Tp) (lo hi : Nat) (w : World) (v : Value) : Prop := ∃ k u a m c, v = .agg #[.int .i64 k, .int .i64 u, .slice a m c] ∧ TpC (cut w (fun b => lo ≤ b ∧ b < hi)) n [.int .i64 k, .int .i64 u, .slice a m c] x
theorem AggIn.mono {n : Nat} {x : Tp} {q B : Nat} (hq : q < B) (lo hi : Nat) (w w' : World) (v : Value) (hB : B ≤ lo) (_ : hi ≤ w.heap.size) (h : Rg q w w') (k : AggIn n x lo hi w v) : AggIn n x lo hi w' v := by
  obtain ⟨k, u, a, m, c, e, ht⟩ := k
  exact ⟨k, u, a, m, c, e, ht.kept (cut_grown h fun b _ hs => ⟨hs, fun e => by have := Option.some.inj e; omega⟩)⟩
theorem AggTp.inside {n : Nat} {x : Tp} {w : World} {B : Nat} {v : Value} (h : AggTp B n x w v) : AggIn n x B w.heap.size w v := by
  obtain ⟨k, u, a, m, c, e, ht⟩ := h
  refine ⟨k, u, a, m, c, e, ht.kept fun x y hx => ?_⟩
  obtain ⟨h1, h2⟩ := cut_some.1 hx
  exact cut_some.2 ⟨⟨h1, World.block_lt_of_cell? w _ h2⟩, h2⟩
/-- A new block. -/
def NewIn (t : Nat) (xs : List Value) (lo hi : Nat) (w : World) (v : Value) : Prop := ∃ g, v = .pointer (some ⟨g, 0, none⟩) ∧ lo ≤ g ∧ g < hi ∧ BoxV w lo g t xs
theorem NewIn.mono {t : Nat} {xs : List Value} {q B : Nat} (hq : q < B) (lo hi : Nat) (w w' : World) (v : Value) (hB : B ≤ lo) (_ : hi ≤ w.heap.size) (h : Rg q w w') (k : NewIn t xs lo hi w v) : NewIn t xs lo hi w' v := by
  obtain ⟨g, e, h1, h2, hb⟩ := k
  exact ⟨g, e, h1, h2, hb.kept h (by simp; omega)⟩
/-- What the slots of 'made := plain.copy(&c.args[t.Num])' hold. -/
def kHit (p b o q j : Nat) (va : Value) (pe : Addr) (n : Nat) (x : Tp) (B : Nat) (hq : q < B) : Tmp → Ki (Rg q) B
  | 0 => .val (.pointer (some ⟨p, 0, none⟩))
  | 1 => .val (.pointer (some ⟨b, o, none⟩))
  | 5 => .val (.pointer (some ⟨q, 0, none⟩))
  | 38 => .val (.pointer (some ⟨p, 0, none⟩))
  | 39 => .val (.pointer (some ⟨p, 0, none⟩))
  | 40 => .val (.pointer (some ⟨p, 0, none⟩))
  | 41 => .val va
  | 42 => .val (.pointer (some ⟨b, o, none⟩))
  | 43 => .val (.pointer (some ⟨b, o, none⟩))
  | 44 => .val (.pointer (some ⟨b, o + 1, none⟩))
  | 45 => .val (.int .i64 j)
  | 46 => .val (.pointer (some pe))
  | 47 => .fact (AggIn n x) (AggIn.mono hq)
  | 6 => .fact (NewIn 25 [.int .i64 0, .int .i64 0, .slice none 0 0]) (NewIn.mono hq)
  | _ => .any

theorem AggTp.rg {B n : Nat} {x : Tp} {q : Nat} (hq : q < B) (w w' : World) (v : Value) (h : Rg q w w') (k : AggTp B n x w v) : AggTp B n x w' v := by
  obtain ⟨k, u, a, m, c, e, ht⟩ := k
  exact ⟨k, u, a, m, c, e, ht.kept (cut_grown h fun b _ hs => ⟨hs, by have h1 : B ≤ b := hs; simp; omega⟩)⟩
/-- A slice of one type, in memory from B on. -/
def SlB (B n : Nat) (x : Tp) (w : World) (v : Value) : Prop := ∃ g k u a m c, B ≤ g ∧ v = .slice (some ⟨g, 0, none⟩) 1 1 ∧ (∀ j y, [Value.int .i64 k, .int .i64 u, .slice a m c][j]? = some y → w.cell? ((⟨g, 0, none⟩ : Addr).add j) = some y) ∧ TpC (cut w (fun b => B ≤ b)) n [.int .i64 k, .int .i64 u, .slice a m c] x
theorem SlB.rg {B n : Nat} {x : Tp} {q : Nat} (hq : q < B) (w w' : World) (v : Value) (h : Rg q w w') (k : SlB B n x w v) : SlB B n x w' v := by
  obtain ⟨g, k, u, a, m, c, hg, e, hc, ht⟩ := k
  refine ⟨g, k, u, a, m, c, hg, e, fun j y hj => h.cell (hc j y hj) ?_, ht.kept (cut_grown h fun b _ hs => ⟨hs, by have h1 : B ≤ b := hs; simp; omega⟩)⟩
  rw [add_spot]
  simp
  omega
theorem SlB.new (w : World) (B n : Nat) (hB : B ≤ w.heap.size) (x : Tp) (k u : Int) (a : Option Addr) (m c : Nat) (t : Nat) (h : TpC (cut w (fun b => B ≤ b)) n [.int .i64 k, .int .i64 u, .slice a m c] x) :
    SlB B n x (w.alloc (.cells #[.int .i64 k, .int .i64 u, .slice a m c] t)) (.slice (some ⟨w.heap.size, 0, none⟩) 1 1) := by
  have hB' := BoxV.new w w.heap.size t (Nat.le_refl _) [.int .i64 k, .int .i64 u, .slice a m c]
  exact ⟨w.heap.size, k, u, a, m, c, hB, rfl, three_at (hB'.cell 0 (by simp)) (hB'.cell 1 (by simp)) (hB'.cell 2 (by simp)), h.kept (cut_below (below_alloc1 w _) fun _ h => h)⟩
/-- What the slots of 'made := api.Type{Kind: t.Kind, Num: t.Num}' hold. -/
def kMade (b o : Nat) (k s : Int) (B : Nat) : Tmp → Ki (fun w w' => w.grownBy w' none) B
  | 1 => .val (.pointer (some ⟨b, o, none⟩))
  | 54 => .val (.pointer (some ⟨b, o, none⟩))
  | 55 => .val (.pointer (some ⟨b, o, none⟩))
  | 56 => .val (.pointer (some ⟨b, o, none⟩))
  | 57 => .val (.int .i64 k)
  | 58 => .val (.pointer (some ⟨b, o, none⟩))
  | 59 => .val (.pointer (some ⟨b, o, none⟩))
  | 60 => .val (.pointer (some ⟨b, o + 1, none⟩))
  | 61 => .val (.int .i64 s)
  | 62 => .val (.agg #[.int .i64 k, .int .i64 s, .slice none 0 0])
  | 7 => .fact (NewIn 25 [.int .i64 0, .int .i64 0, .slice none 0 0]) fun lo hi w w' v _ _ h ⟨g, e, h1, h2, hb⟩ => ⟨g, e, h1, h2, hb.kept h (by simp)⟩
  | _ => .any
/-- What the slots of 'made.Args = append(made.Args, c.copy(&t.Args[i]))' hold. -/
def kCpy (p b o g7 : Nat) (i : Int) (v0 vs : Value) (pe : Addr) (n : Nat) (x : Tp) (B : Nat) (hq : p < B) : Tmp → Ki (Rg p) B
  | 0 => .val (.pointer (some ⟨p, 0, none⟩))
  | 1 => .val (.pointer (some ⟨b, o, none⟩))
  | 7 => .val (.pointer (some ⟨g7, 0, none⟩))
  | 8 => .val (.int .i64 i)
  | 86 => .val (.pointer (some ⟨g7, 2, none⟩))
  | 87 => .val v0
  | 88 => .val (.pointer (some ⟨p, 0, none⟩))
  | 89 => .val (.pointer (some ⟨b, o, none⟩))
  | 90 => .val (.pointer (some ⟨b, o, none⟩))
  | 91 => .val (.pointer (some ⟨b, o + 2, none⟩))
  | 92 => .val vs
  | 93 => .val (.int .i64 i)
  | 94 => .val (.pointer (some pe))
  | 95 => .fact (fun _ _ => AggTp B n x) fun _ _ w w' v _ _ => AggTp.rg hq w w' v
  | 96 => .fact (fun _ _ => SlB B n x) fun _ _ w w' v _ _ => SlB.rg hq w w' v
  | _ => .any
theorem boxV_base {w : World} {B B' g t : Nat} {xs : List Value} (h : BoxV w B g t xs) (hB : B' ≤ g) : BoxV w B' g t xs := by
  refine ⟨h.1, ?_⟩
  rcases h.2 with ⟨e, _⟩ | ⟨g', cap, cur, e, _, rest⟩
  · cases e
  · have e' := e
    simp only [Value.slice.injEq, Option.some.injEq, Addr.mk.injEq, and_true, true_and] at e'
    obtain ⟨rfl, rfl⟩ := e'
    exact .inr ⟨_, _, cur, e, hB, rest⟩
theorem cut_row {c c' : Addr → Option Value} (h : ∀ a u, c a = some u → c' a = some u) {cs : List Value} (hl : cs.length = 3) {f : Nat → Addr} (hcs : ∀ j, j < 3 → c (f j) = cs[j]?) : ∀ j, j < 3 → c' (f j) = cs[j]? := by
  intro j hj
  have := hcs j hj
  rw [List.getElem?_eq_getElem (by omega)] at this ⊢
  exact h _ _ this
theorem grown_weak {w w' : World} {row : Option Nat} (h : w.grownBy w' none) : w.grownBy w' row := ⟨h.os, h.tape, h.output, h.size, fun k hk _ => h.block k hk (by simp)⟩

theorem grown_row {w w' : World} {q : Nat} {row : Option Nat} (h : w.grownBy w' (some q)) (hq : w.heap.size ≤ q) : w.grownBy w' row :=
  ⟨h.os, h.tape, h.output, h.size, fun k hk _ => h.block k hk (by simp; omega)⟩
theorem grown_more {w v v' : World} {g : Nat} {row : Option Nat} (h : w.grownBy v row) (k : v.grownBy v' (some g)) (hg : w.heap.size ≤ g ∨ some g = row) : w.grownBy v' row :=
  ⟨k.os.trans h.os, k.tape.trans h.tape, k.output.trans h.output, Nat.le_trans h.size k.size, fun i hi hn => (k.block i (Nat.lt_of_lt_of_le hi h.size) (fun e => by
    have := Option.some.inj e
    subst this
    rcases hg with hg | hg
    · omega
    · exact hn hg)).trans (h.block i hi hn)⟩
theorem grown_set3 (w : World) (g : Nat) (u0 u1 u2 : Value) : w.grownBy (((w.setCell ⟨g, 0, none⟩ u0).setCell ⟨g, 1, none⟩ u1).setCell ⟨g, 2, none⟩ u2) (some g) :=
  grown_trans (grown_trans (grown_set _ g 0 u0) (grown_set _ g 1 u1)) (grown_set _ g 2 u2)

theorem grown_drewN (w : World) (n : Nat) (row : Option Nat) : w.grownBy (w.drewN n) row := ⟨rfl, rfl, rfl, Nat.le_refl _, fun _ _ _ => rfl⟩

set_option maxRecDepth 100000 in
set_option maxHeartbeats 16000000 in
theorem copy_gen (ls : List Tp) (m : Nat) (hp0 : ls = [] ∨ CopyP [] 0 m) (hsa : ∀ t ∈ ls, size t ≤ 1000000) : ∀ n, CopyP ls m n := by
  intro n
  induction n with
  | zero => intro va p b o T w L cs _ _ h; exact h.elim
  | succ n ih =>
    intro va p b o T w L cs hcs hcl hT hS0 hp hL hL2 hS
    obtain ⟨k, s, us⟩ := T
    obtain ⟨v, rfl, hk, hs, a, cap, rfl, hcap, hcap2, hrow⟩ := hT
    have hS0' := hS0
    obtain ⟨aa, ca, rfl, hca, hca2, hrowA⟩ := hS0
    rw [size] at hS
    have hlen := length_sizeL us
    have hQ : BoxV (w.alloc (.cells #[.int .i64 0, .int .i64 0, .slice none 0 0] 25)) w.heap.size w.heap.size 25 [.int .i64 0, .int .i64 0, .slice none 0 0] := BoxV.new w w.heap.size 25 (Nat.le_refl _) _
    have hG : w.grownBy (w.alloc (.cells #[.int .i64 0, .int .i64 0, .slice none 0 0] 25)) none := World.grownBy_alloc _ _ _
    have hpl := hp.block.2
    have d0 : w.cell? ⟨b, o, none⟩ = some (.int .i64 k) := cut_cell _ _ (hcs 0 (by omega))
    have d1 : w.cell? ⟨b, o + 1, none⟩ = some (.int .i64 s) := cut_cell _ _ (hcs 1 (by omega))
    have d2 : w.cell? ⟨b, o + 2, none⟩ = some (.slice a us.length cap) := cut_cell _ _ (hcs 2 (by omega))
    have e0 := hG.cell d0 (by simp)
    have e1 := hG.cell d1 (by simp)
    have e2 := hG.cell d2 (by simp)
    have c0 := hG.cell (hp.cell 0 (by simp)) (by simp)
    have c1 := hG.cell (hp.cell 1 (by simp)) (by simp)
    by_cases hhit : k = 4 ∧ 0 ≤ s ∧ s < (ls.length : Int)
    · obtain ⟨rfl, hs0, hs1⟩ := hhit
      obtain ⟨j, rfl⟩ : ∃ j : Nat, s = (j : Int) := ⟨s.toNat, by omega⟩
      have hj : j < ls.length := by omega
      have hval : cp ls (.mk 4 j us) L = cp0 ls[j] L := by
        rw [cp]
        unfold hit
        rw [if_pos ⟨rfl, by omega⟩, Int.toNat_natCast, List.getElem?_eq_getElem hj]
      rw [hval]
      obtain ⟨bb, oo, cs', rfl, hcl', hcs', hTj⟩ := hrowA j hj
      have hcopy : CopyP [] 0 m := by
        rcases hp0 with rfl | h
        · simp at hj
        · exact h
      have HA := Lib.hid (And.intro hTj (And.intro hcs' (And.intro hcl' (And.intro hcopy (And.intro hp (And.intro hQ (And.intro hG (hsa _ (List.getElem_mem hj)))))))))
      clear ih hrow hrowA hS0' hQ hTj hcs' hval hp0 hcopy hp hG hcs hsa d0 d2 e2
      go_enter Try.func18, Try.ntmps18
      go_wp2_with fail
      go_quiet (fail)
      have hG1 := grown_trans HA.out.2.2.2.2.2.2.1 (grown_drewN _ nq none)
      have hQ1 := HA.out.2.2.2.2.2.1.kept (grown_drewN _ nq none) (by simp)
      have HB := Lib.hid (And.intro hG1 hQ1)
      have hbl : b < w.heap.size := World.block_lt_of_cell? w _ d1
      have y0 := hG1.cell (HA.out.2.2.2.2.1.cell 0 (by simp)) (by simp)
      have y1 := hG1.cell (HA.out.2.2.2.2.1.cell 1 (by simp)) (by simp)
      have z1 := hG1.cell d1 (by simp)
      clear hG1 hQ1 e0 e1 c0 c1
      generalize (w.alloc (.cells #[.int .i64 0, .int .i64 0, .slice none 0 0] 25)).drewN nq = W1 at HB y0 y1 z1 ⊢
      have hG2 : w.grownBy (W1.alloc (.cells #[.slice none 0 0, .int .i64 L] 47)) none := grown_trans HB.out.1 (World.grownBy_alloc _ _ _)
      have hX2 : BoxV (W1.alloc (.cells #[.slice none 0 0, .int .i64 L] 47)) 0 W1.heap.size 47 [.slice none 0 0, .int .i64 L] := BoxV.new W1 0 47 (Nat.zero_le _) _
      have hQ2 := HB.out.2.alloc (.cells #[.slice none 0 0, .int .i64 L] 47)
      have hp2 := HA.out.2.2.2.2.1.kept hG2 (by simp)
      have hq : W1.heap.size < (W1.alloc (.cells #[.slice none 0 0, .int .i64 L] 47)).heap.size := by simp
      have hqw : w.heap.size < W1.heap.size := HB.out.2.block.2
      have u0 := hp2.cell 0 (by simp)
      have u1 := hG2.cell d1 (by simp)
      have HC := Lib.hid (And.intro hG2 (And.intro hX2 (And.intro hQ2 (And.intro hp2 (And.intro u0 u1)))))
      clear hG2 hX2 hQ2 hp2 u0 u1 d1
      go_wp2_with fail
      generalize W1.alloc (.cells #[.slice none 0 0, .int .i64 L] 47) = W2 at HC hq ⊢
      refine region_phasePut (Rg W1.heap.size) (fun w w' => w.grownBy w' none) (fun w => BoxV w 0 W1.heap.size 47 [.slice none 0 0, .int .i64 L]) (fun w => BoxV w 0 W1.heap.size 47 [.slice none 0 0, .int .i64 (cp0 ls[j] L).2]) 9 (fun t => (kHit p b o W1.heap.size j (.slice (some ⟨bb, oo, none⟩) ls.length ca) ⟨bb, oo + j * 3, none⟩ m (cp0 ls[j] L).1 W2.heap.size hq t).holds) (by rfl) (rg_draw _ W2) (fun w w' => rg_trans w w') rn_refl (fun _ _ h => grown_weak h) (HC.out.2.1.kept (rn_draw W2) (by simp)) (fun _ _ h k => k.kept h (by simp)) (fun _ _ h k => k.kept h (by simp)) (fun _ _ h => h.size) (fun t lo hi w w' v => Ki.mono _ lo hi w w' v) 100 11 (by rfl) (by kernel_rfl) (by kernel_rfl) (by kernel_rfl) (by kernel_rfl) [0, 1, 5] (by kernel_rfl) ?_ (by decide) ?_ ?_
      · intro t ht
        simp only [List.mem_cons, List.not_mem_nil, or_false] at ht
        rcases ht with rfl | rfl | rfl <;> rfl
      · refine ⟨ph_val rfl rn_refl fun a w' hR hf => ?_, ph_val rfl rn_refl fun a w' hR hf => ?_, ph_val rfl rn_refl fun a w' hR hf => ?_, ph_val rfl rn_refl fun a w' hR hf => ?_, ph_val rfl rn_refl fun a w' hR hf => ?_, ph_val rfl rn_refl fun a w' hR hf => ?_, ph_val rfl rn_refl fun a w' hR hf => ?_, ph_val rfl rn_refl fun a w' hR hf => ?_, ph_val rfl rn_refl fun a w' hR hf => ?_, ph_wpC rfl fun a w' Q hR hJ hf => ?_, ph_wp rfl fun a w' Q hR hf => ?_, trivial⟩
        · have h1 : a.tmps.getD 0 undef = .pointer (some ⟨p, 0, none⟩) := ki_val rfl (hf 0 (by simp [Op.operands]))
          go_simp
        · have h1 : a.tmps.getD 38 undef = .pointer (some ⟨p, 0, none⟩) := ki_val rfl (hf 38 (by simp [Op.operands]))
          go_simp
        · have h1 : a.tmps.getD 39 undef = .pointer (some ⟨p, 0, none⟩) := ki_val rfl (hf 39 (by simp [Op.operands]))
          go_simp
        · have h1 : a.tmps.getD 40 undef = .pointer (some ⟨p, 0, none⟩) := ki_val rfl (hf 40 (by simp [Op.operands]))
          have c1 := hR.cell HC.out.2.2.2.2.1 (by simp; omega)
          go_simp
        · have h1 : a.tmps.getD 1 undef = .pointer (some ⟨b, o, none⟩) := ki_val rfl (hf 1 (by simp [Op.operands]))
          go_simp
        · have h1 : a.tmps.getD 42 undef = .pointer (some ⟨b, o, none⟩) := ki_val rfl (hf 42 (by simp [Op.operands]))
          go_simp
        · have h1 : a.tmps.getD 43 undef = .pointer (some ⟨b, o, none⟩) := ki_val rfl (hf 43 (by simp [Op.operands]))
          go_simp
        · have h1 : a.tmps.getD 44 undef = .pointer (some ⟨b, o + 1, none⟩) := ki_val rfl (hf 44 (by simp [Op.operands]))
          have c1 := hR.cell HC.out.2.2.2.2.2 (by simp; omega)
          go_simp
        · have h1 : a.tmps.getD 41 undef = .slice (some ⟨bb, oo, none⟩) ls.length ca := ki_val rfl (hf 41 (by simp [Op.operands]))
          have h2 : a.tmps.getD 45 undef = .int .i64 j := ki_val rfl (hf 45 (by simp [Op.operands]))
          go_simp
        · have h1 : a.tmps.getD 5 undef = .pointer (some ⟨W1.heap.size, 0, none⟩) := ki_val rfl (hf 5 (by simp [Op.operands, Call.operands]))
          have h2 : a.tmps.getD 46 undef = .pointer (some ⟨bb, oo + j * 3, none⟩) := ki_val rfl (hf 46 (by simp [Op.operands, Call.operands]))
          have hrun : Sem.run Try.prog (execOp a.eval ⟨some 47, .call ⟨.value (.func 18), #[.tmp 5, .tmp 46], #[47, 49]⟩, 25, "types.go:114", #[⟨8, .data⟩], none⟩) w' = .ok (.enter 18 #[.pointer (some ⟨W1.heap.size, 0, none⟩), .pointer (some ⟨bb, oo + j * 3, none⟩)]) w' := by go_simp
          have hmv : ∀ x y, cut w (· ≠ p) x = some y → cut w' (· ≠ W1.heap.size) x = some y := cut_grown (grown_trans (grown_weak HC.out.1) hR) fun b' hb' _ => ⟨by omega, by simp; omega⟩
          unfold Oper.wp
          rw [hrun, Oper.upon_enter]
          refine (HA.out.2.2.2.1 (.slice none 0 0) W1.heap.size bb (oo + j * 3) ls[j] w' L cs' (cut_row hmv HA.out.2.2.1 HA.out.2.1) HA.out.2.2.1 (HA.out.1.kept hmv) (RowC.nil _ _ _) hJ hL hL2 HA.out.2.2.2.2.2.2.2).mono ?_
          rintro e w6 ⟨r, rfl, hg6, hb6, hr⟩
          rw [cp_nil] at hb6 hr
          exact ⟨r, rfl, hg6, hb6, hr.inside⟩
        · have hrun : Sem.run Try.prog (execOp a.eval ⟨some 6, .alloc 25, 0, "types.go:114", #[], none⟩) w' = .ok (.value (.pointer (some ⟨w'.heap.size, 0, none⟩))) (w'.alloc (.cells #[.int .i64 0, .int .i64 0, .slice none 0 0] 25)) := by go_simp
          unfold Oper.wp
          rw [hrun, Oper.upon_value]
          exact ⟨_, rfl, World.grownBy_alloc _ _ _, w'.heap.size, rfl, Nat.le_refl _, by simp, BoxV.new w' w'.heap.size 25 (Nat.le_refl _) _⟩
      · intro u w6 lo hi hR6 hf hiv hdj hK6
        obtain ⟨k1, u1, a1, m1, c1, f47, hx⟩ : AggIn _ _ (lo 47) (hi 47) w6 (u 47) := hf 9 47 (by decide) rfl
        obtain ⟨g, f6, hg1, hg2, hbG⟩ : NewIn _ _ (lo 6) (hi 6) w6 (u 6) := hf 10 6 (by decide) rfl
        have hdj' := hdj 9 10 47 6 (by decide) (by decide) (by decide) rfl rfl
        have hi6 := hiv 6
        have hi47 := hiv 47
        simp only [putAll, List.drop_succ_cons, List.drop_zero, List.take_succ_cons, List.take_zero, Act.put, List.setIfInBounds_toArray, List.set_cons_succ, List.set_cons_zero]
        rw [f47, f6]
        clear hf f47 f6 hdj hiv
        have hx6 : TpC (cut w6 (fun b' => w.heap.size < b' ∧ b' ≠ W1.heap.size ∧ b' ≠ g)) m [.int .i64 k1, .int .i64 u1, .slice a1 m1 c1] (cp0 ls[j] L).1 := hx.kept fun _ _ h => cut_le (fun b' hb' => ⟨by omega, by omega, by omega⟩) _ _ h
        have hgw := grown_trans (grown_weak HC.out.1) hR6
        have x0 := hbG.cell 0 (by simp)
        have x1 := hbG.cell 1 (by simp)
        have x2 := hbG.cell 2 (by simp)
        have z0 := hbG.frozen 0
        have z1' := hbG.frozen 1
        have z2 := hbG.frozen 2
        have hp6 := HC.out.2.2.2.1.kept hR6 (by simp; omega)
        have hQ6 := HC.out.2.2.1.kept hR6 (by simp; omega)
        have v0 := hK6.cell 0 (by simp)
        have v1 := hK6.cell 1 (by simp)
        have p1 := hp6.cell 1 (by simp)
        have p1' := hp6.frozen 1
        have q0 := hQ6.cell 0 (by simp)
        have q1 := hQ6.cell 1 (by simp)
        have q2 := hQ6.cell 2 (by simp)
        have q0' := hQ6.frozen 0
        have q1' := hQ6.frozen 1
        have q2' := hQ6.frozen 2
        have hgW : w.heap.size < g := by omega
        have hgp : g ≠ p := by omega
        have hgq : g ≠ W1.heap.size := by omega
        have hgQ : g ≠ w.heap.size := by omega
        have hpQ : p ≠ w.heap.size := by omega
        have hqQ : W1.heap.size ≠ w.heap.size := by omega
        have hpq : p ≠ W1.heap.size := by omega
        have HD := Lib.hid (And.intro hx6 (And.intro hgw (And.intro hp6 hQ6)))
        clear hx hx6 hgw hp6 hQ6 hbG hK6 hR6 hdj' hi6 hi47 hg1 hg2 y0 y1 z1
        go_wp2_with fail
        have hG1 := grown_set3 w6 g (.int .i64 k1) (.int .i64 u1) (.slice a1 m1 c1)
        have hB1 := HD.out.2.2.1.kept hG1 (by simp; omega)
        have hQ1 := HD.out.2.2.2.kept hG1 (by simp; omega)
        have hX1 := HD.out.1.kept (cut_grown hG1 (T := fun b' => w.heap.size < b') fun b' _ hs => ⟨hs.1, by simp; omega⟩)
        have hW1 := grown_more (row := some p) (grown_row HD.out.2.1 (by omega)) hG1 (.inl (by omega))
        have hG2 := grown_set (((w6.setCell ⟨g, 0, none⟩ (.int .i64 k1)).setCell ⟨g, 1, none⟩ (.int .i64 u1)).setCell ⟨g, 2, none⟩ (.slice a1 m1 c1)) p 1 (.int .i64 (cp0 ls[j] L).2)
        have hB2 : BoxV _ 0 p 47 [.slice (some ⟨bb, oo, none⟩) ls.length ca, .int .i64 (cp0 ls[j] L).2] := boxV_setT hB1 1 (.int .i64 (cp0 ls[j] L).2)
        have hQ2 := hQ1.kept hG2 (by simp; omega)
        have hX2 := hX1.kept (cut_grown hG2 (T := fun b' => w.heap.size < b') fun b' _ hs => ⟨hs, by have h1 : w.heap.size < b' := hs; simp; omega⟩)
        have hW2 := grown_more hW1 hG2 (.inr rfl)
        have hG3 := grown_set3 ((((w6.setCell ⟨g, 0, none⟩ (.int .i64 k1)).setCell ⟨g, 1, none⟩ (.int .i64 u1)).setCell ⟨g, 2, none⟩ (.slice a1 m1 c1)).setCell ⟨p, 1, none⟩ (.int .i64 (cp0 ls[j] L).2)) w.heap.size (.int .i64 k1) (.int .i64 u1) (.slice a1 m1 c1)
        have hB3 := hB2.kept hG3 (by simp; omega)
        have hQ3 : BoxV _ w.heap.size w.heap.size 25 [.int .i64 k1, .int .i64 u1, .slice a1 m1 c1] := boxV_setT (boxV_setT (boxV_setT hQ2 0 (.int .i64 k1)) 1 (.int .i64 u1)) 2 (.slice a1 m1 c1)
        have hX3 := hX2.kept (cut_grown hG3 (T := fun b' => w.heap.size ≤ b') fun b' _ hs => ⟨by have h1 : w.heap.size < b' := hs; omega, by have h1 : w.heap.size < b' := hs; simp; omega⟩)
        have hW3 := grown_more hW2 hG3 (.inl (Nat.le_refl _))
        have hh := hQ3.heap
        have HE := Lib.hid (And.intro hW3 (And.intro hB3 hX3))
        exact bodyPost_ret (v := .agg #[.int .i64 k1, .int .i64 u1, .slice a1 m1 c1]) (results_cell_row (P := Try.prog) Try.results18 _ _ w.heap.size 25 #[.int .i64 k1, .int .i64 u1, .slice a1 m1 c1] (0, 0) _ rfl hh Try.underlying25 rfl (by kernel_rfl)) rfl ⟨_, rfl, HE.out.1, HE.out.2.1, _, _, _, _, _, rfl, HE.out.2.2.le (by omega)⟩
    have hval : cp ls (.mk k s us) L = (.mk k s (cpL ls us (L - 1)).1, (cpL ls us (L - 1)).2) := by
      rw [cp]
      unfold hit
      by_cases h1 : k = 4 ∧ 0 ≤ s
      · rw [if_pos h1, List.getElem?_eq_none (by omega)]
      · rw [if_neg h1]
    rw [hval]
    obtain ⟨R, hR⟩ : ∃ R, cpL ls us (L - 1) = R := ⟨_, rfl⟩
    rw [hR]
    have hbl : b < w.heap.size := World.block_lt_of_cell? w _ d0
    have hways : (k == 4) = false ∨ ((k == 4) = true ∧ decide (0 ≤ s) = false) ∨ ((k == 4) = true ∧ 0 ≤ s ∧ decide (s < (ls.length : Int)) = false) := by
      by_cases h4 : k = 4
      · by_cases h0 : s < 0
        · exact .inr (.inl ⟨by simpa using h4, decide_eq_false (by omega)⟩)
        · exact .inr (.inr ⟨by simpa using h4, by omega, decide_eq_false (by omega)⟩)
      · exact .inl (by simpa using h4)
    have HA := Lib.hid (And.intro ih (And.intro hrow (And.intro hS (And.intro hS0' (And.intro hp (And.intro hQ (And.intro hG (And.intro hcs hR))))))))
    clear ih hrow hQ hrowA hS0' hsa hhit hval hp hG hcs hR hp0 e2
    rcases hways with h4 | ⟨h4, h0⟩ | ⟨h4, h0, h1⟩
    all_goals
      go_enter Try.func18, Try.ntmps18
      go_wp2_with fail
      go_quiet (fail)
      have hG1 := grown_trans HA.out.2.2.2.2.2.2.1 (grown_drewN _ nq none)
      have hQ1 := HA.out.2.2.2.2.2.1.kept (grown_drewN _ nq none) (by simp)
      have HB := Lib.hid (And.intro hG1 hQ1)
      have y0 := hG1.cell d0 (by simp)
      have y1 := hG1.cell d1 (by simp)
      clear hG1 hQ1 e0 e1 c0 c1
      generalize (w.alloc (.cells #[.int .i64 0, .int .i64 0, .slice none 0 0] 25)).drewN nq = W1 at HB y0 y1 ⊢
      have HY := Lib.hid (And.intro y0 y1)
      go_wp2_with fail
      clear y0 y1
      refine region_ivlPut (fun w w' => w.grownBy w' none) (fun t => (kMade b o k s W1.heap.size t).holds) (by rfl) (rn_draw W1) (fun w w' h k => grown_trans h k) rn_refl (fun _ _ h => h.size) (fun t lo hi w w' v => Ki.mono (R := fun w w' => w.grownBy w' none) _ lo hi w w' v) 100 10 (by rfl) (by kernel_rfl) (by kernel_rfl) (by kernel_rfl) (by kernel_rfl) [1] (by kernel_rfl) ?_ ?_ ?_
      · intro t ht
        simp only [List.mem_cons, List.not_mem_nil, or_false] at ht
        rcases ht with rfl
        rfl
      · refine ⟨ivl_val rfl rn_refl fun a w' hR hf => ?_, ivl_val rfl rn_refl fun a w' hR hf => ?_, ivl_val rfl rn_refl fun a w' hR hf => ?_, ivl_val rfl rn_refl fun a w' hR hf => ?_, ivl_val rfl rn_refl fun a w' hR hf => ?_, ivl_val rfl rn_refl fun a w' hR hf => ?_, ivl_val rfl rn_refl fun a w' hR hf => ?_, ivl_val rfl rn_refl fun a w' hR hf => ?_, ivl_val rfl rn_refl fun a w' hR hf => ?_, ivl_wp rfl fun a w' Q hR hf => ?_, trivial⟩
        · have h1 : a.tmps.getD 1 undef = .pointer (some ⟨b, o, none⟩) := ki_val rfl (hf 1 (by simp [Op.operands]))
          go_simp
        · have h1 : a.tmps.getD 54 undef = .pointer (some ⟨b, o, none⟩) := ki_val rfl (hf 54 (by simp [Op.operands]))
          go_simp
        · have h1 : a.tmps.getD 55 undef = .pointer (some ⟨b, o, none⟩) := ki_val rfl (hf 55 (by simp [Op.operands]))
          go_simp
        · have h1 : a.tmps.getD 56 undef = .pointer (some ⟨b, o, none⟩) := ki_val rfl (hf 56 (by simp [Op.operands]))
          have c1 := hR.cell HY.out.1 (by simp)
          go_simp
        · have h1 : a.tmps.getD 1 undef = .pointer (some ⟨b, o, none⟩) := ki_val rfl (hf 1 (by simp [Op.operands]))
          go_simp
        · have h1 : a.tmps.getD 58 undef = .pointer (some ⟨b, o, none⟩) := ki_val rfl (hf 58 (by simp [Op.operands]))
          go_simp
        · have h1 : a.tmps.getD 59 undef = .pointer (some ⟨b, o, none⟩) := ki_val rfl (hf 59 (by simp [Op.operands]))
          go_simp
        · have h1 : a.tmps.getD 60 undef = .pointer (some ⟨b, o + 1, none⟩) := ki_val rfl (hf 60 (by simp [Op.operands]))
          have c1 := hR.cell HY.out.2 (by simp)
          go_simp
        · have h1 : a.tmps.getD 57 undef = .int .i64 k := ki_val rfl (hf 57 (by simp [Op.operands]))
          have h2 : a.tmps.getD 61 undef = .int .i64 s := ki_val rfl (hf 61 (by simp [Op.operands]))
          have h3 : a.tmps[57]?.getD undef = .int .i64 k := by rw [← Array.getD_eq_getD_getElem?]; exact h1
          have h5 : a.tmps[61]?.getD undef = .int .i64 s := by rw [← Array.getD_eq_getD_getElem?]; exact h2
          go_simp
        · have hrun : Sem.run Try.prog (execOp a.eval ⟨some 7, .alloc 25, 0, "types.go:118", #[], none⟩) w' = .ok (.value (.pointer (some ⟨w'.heap.size, 0, none⟩))) (w'.alloc (.cells #[.int .i64 0, .int .i64 0, .slice none 0 0] 25)) := by go_simp
          unfold Oper.wp
          rw [hrun, Oper.upon_value]
          exact ⟨_, rfl, World.grownBy_alloc _ _ _, w'.heap.size, rfl, Nat.le_refl _, by simp, BoxV.new w' w'.heap.size 25 (Nat.le_refl _) _⟩
      · intro u w6 lo hi hR6 hf hiv _
        have f62 : u 62 = .agg #[.int .i64 k, .int .i64 s, .slice none 0 0] := hf 8 62 (by decide) rfl
        obtain ⟨g7, f7, hg1, hg2, hbG⟩ : NewIn _ _ (lo 7) (hi 7) w6 (u 7) := hf 9 7 (by decide) rfl
        have hi7 := hiv 7
        simp only [putAll, List.drop_succ_cons, List.drop_zero, List.take_succ_cons, List.take_zero, Act.put, List.setIfInBounds_toArray, List.set_cons_succ, List.set_cons_zero]
        rw [f62, f7]
        clear hf f62 f7 hiv
        have hqw : w.heap.size < W1.heap.size := HB.out.2.block.2
        have hgW : w.heap.size < g7 := by omega
        have x0 := hbG.cell 0 (by simp)
        have x1 := hbG.cell 1 (by simp)
        have x2 := hbG.cell 2 (by simp)
        have z0 := hbG.frozen 0
        have z1 := hbG.frozen 1
        have z2 := hbG.frozen 2
        have hgw6 := grown_trans HB.out.1 hR6
        have hp6 := HA.out.2.2.2.2.1.kept hgw6 (by simp)
        have hQ6 := HB.out.2.kept hR6 (by simp)
        have p1 := hp6.cell 1 (by simp)
        have p1' := hp6.frozen 1
        have hgp : g7 ≠ p := by omega
        have w1 : IntKind.i64.wrap (L - 1) = L - 1 := IntWalk.i64_in _ (by omega)
        have hG1 := grown_set3 w6 g7 (.int .i64 k) (.int .i64 s) (.slice none 0 0)
        have hG2 := grown_set (((w6.setCell ⟨g7, 0, none⟩ (.int .i64 k)).setCell ⟨g7, 1, none⟩ (.int .i64 s)).setCell ⟨g7, 2, none⟩ (.slice none 0 0)) p 1 (.int .i64 (L - 1))
        have hW7 := grown_more (grown_more (row := some p) (grown_weak hgw6) hG1 (.inl (by omega))) hG2 (.inr rfl)
        have hB7 : BoxV _ 0 p 47 [.slice aa ls.length ca, .int .i64 (L - 1)] := boxV_setT (hp6.kept hG1 (by simp; omega)) 1 (.int .i64 (L - 1))
        have hQ7 := (hQ6.kept hG1 (by simp; omega)).kept hG2 (by simp; omega)
        have hM7 : BoxV _ (lo 7) g7 25 [.int .i64 k, .int .i64 s, .slice none 0 0] := (show BoxV _ (lo 7) g7 25 [.int .i64 k, .int .i64 s, .slice none 0 0] from boxV_setT (boxV_setT (boxV_setT hbG 0 (.int .i64 k)) 1 (.int .i64 s)) 2 (.slice none 0 0)).kept hG2 (by simp; omega)
        have H7 := Lib.hid (And.intro hW7 (And.intro hB7 (And.intro hQ7 hM7)))
        clear hgw6 hp6 hQ6 hbG hR6 hG1 hG2 hW7 hB7 hQ7 hM7 hg1 hg2 hi7 HB
        go_wp2_with fail
        clear x0 x1 x2 z0 z1 z2 p1 p1' w1
        generalize (((w6.setCell ⟨g7, 0, none⟩ (.int .i64 k)).setCell ⟨g7, 1, none⟩ (.int .i64 s)).setCell ⟨g7, 2, none⟩ (.slice none 0 0)).setCell ⟨p, 1, none⟩ (.int .i64 (L - 1)) = W7 at H7 ⊢
        go_loopw [8] (fun x wr => ∃ (i : Nat) (L1 : Int) (v0 : Value) (made : List Tp), i ≤ us.length ∧ x = .int .i64 i ∧ -1 ≤ L1 ∧ L1 ≤ L ∧ made.length = i ∧ R = (made ++ (cpL ls (us.drop i) L1).1, (cpL ls (us.drop i) L1).2) ∧ w.grownBy wr (some p) ∧
            BoxV wr 0 p 47 [.slice aa ls.length ca, .int .i64 L1] ∧ BoxV wr w.heap.size w.heap.size 25 [.int .i64 0, .int .i64 0, .slice none 0 0] ∧ BoxV wr w.heap.size g7 25 [.int .i64 k, .int .i64 s, v0] ∧ TpOwn wr (g7 + 1) (n + m) v0 made) (fun x _ => us.length - (intOf x).toNat)
        case atStart => exact ⟨0, L - 1, .slice none 0 0, [], Nat.zero_le _, rfl, by omega, by omega, rfl, by rw [List.drop_zero, List.nil_append]; exact HA.out.2.2.2.2.2.2.2.2.symm, H7.out.1, H7.out.2.1, H7.out.2.2.1, boxV_base H7.out.2.2.2 (Nat.le_of_lt hgW), TpOwn.nil _ _ _⟩
        case round =>
          have hbp : b ≠ p := by
            have := cut_some.1 (show cut w (· ≠ p) ⟨b, o + 2, none⟩ = some (.slice a us.length cap) from HA.out.2.2.2.2.2.2.2.1 2 (by omega))
            exact this.1
          obtain ⟨i, L1, v0, made, hi, rfl, hL1, hL1', hmade, hres, hg, hP, hQ, hO, hT⟩ := hrel
          have t2 := hg.cell d2 (by simp; exact hbp)
          have p1 := hP.cell 1 (by simp)
          obtain ⟨a0, c0, rfl, hc0, hc0'⟩ := hT.shape
          rw [hmade] at hT hO
          clear hc0 hc0'
          by_cases hlt : i < us.length
          · have hii : (i : Int) < (us.length : Int) := by omega
            by_cases hneg : L1 < 0
            · have hneg' : decide (0 ≤ L1) = false := decide_eq_false (by omega)
              rw [cpL_drop ls hlt, if_pos hneg, List.append_nil] at hres
              have o0 := hO.cell 0 (by simp)
              have o1 := hO.cell 1 (by simp)
              have o2 := hO.cell 2 (by simp)
              have q0 := hQ.cell 0 (by simp)
              have q1 := hQ.cell 1 (by simp)
              have q2 := hQ.cell 2 (by simp)
              have q0' := hQ.frozen 0
              have q1' := hQ.frozen 1
              have q2' := hQ.frozen 2
              have HF := Lib.hid (And.intro hg (And.intro hP (And.intro hQ (And.intro hT hres))))
              clear hg hP hQ hO hT hres hlt
              go_wp2_with fail
              have hG3 := grown_set3 wr w.heap.size (.int .i64 k) (.int .i64 s) (.slice a0 i c0)
              have hQ3 : BoxV _ w.heap.size w.heap.size 25 [.int .i64 k, .int .i64 s, .slice a0 i c0] := boxV_setT (boxV_setT (boxV_setT HF.out.2.2.1 0 (.int .i64 k)) 1 (.int .i64 s)) 2 (.slice a0 i c0)
              have hB3 := HF.out.2.1.kept hG3 (by simp; omega)
              have hT3 := HF.out.2.2.2.1.kept hG3 (fun q hq => by cases hq; exact .inl (by omega))
              have hW3 := grown_more HF.out.1 hG3 (.inl (Nat.le_refl _))
              have hR9 : TpC (cut (((wr.setCell ⟨w.heap.size, 0, none⟩ (.int .i64 k)).setCell ⟨w.heap.size, 1, none⟩ (.int .i64 s)).setCell ⟨w.heap.size, 2, none⟩ (.slice a0 i c0)) (fun b => w.heap.size ≤ b)) (n + 1 + m) [.int .i64 k, .int .i64 s, .slice a0 i c0] (.mk k s made) := by
                rw [show n + 1 + m = n + m + 1 by omega]
                exact ⟨_, rfl, hk, hs, hT3.tps.kept (cut_le fun b h => by omega)⟩
              have HE := Lib.hid (And.intro hW3 (And.intro hB3 hR9))
              have hh := hQ3.heap
              clear o0 o1 o2 q0 q1 q2 q0' q1' q2' hG3 hQ3 hB3 hT3 hW3 hR9
              generalize ((wr.setCell ⟨w.heap.size, 0, none⟩ (.int .i64 k)).setCell ⟨w.heap.size, 1, none⟩ (.int .i64 s)).setCell ⟨w.heap.size, 2, none⟩ (.slice a0 i c0) = W9 at HE hh ⊢
              refine bodyPost_ret (v := .agg #[.int .i64 k, .int .i64 s, .slice a0 i c0]) (results_cell_row (P := Try.prog) Try.results18 _ _ w.heap.size 25 #[.int .i64 k, .int .i64 s, .slice a0 i c0] (0, 0) _ rfl hh Try.underlying25 rfl (by kernel_rfl)) rfl ?_
              rw [HF.out.2.2.2.2]
              exact ⟨_, rfl, HE.out.1, HE.out.2.1, _, _, _, _, _, rfl, HE.out.2.2⟩
            · have hneg' : 0 ≤ L1 := by omega
              rw [cpL_drop ls hlt, if_neg hneg] at hres
              obtain ⟨bb, oo, cs', rfl, hcl', hcs', hTi⟩ := HA.out.2.1 i hlt
              match cs', hcl' with
              | [t0, t1, t2'], _ =>
                have e2 := hO.cell 2 (by simp)
                have hsz : size us[i] ≤ 1000000 := by have := size_mem (List.getElem_mem hlt); have := HA.out.2.2.1; omega
                have p0 := hP.cell 0 (by simp)
                have hq : p < wr.heap.size := hP.block.2
                have HR := Lib.hid (And.intro hg (And.intro hP (And.intro hQ (And.intro hO (And.intro hT (And.intro hTi (And.intro hsz (And.intro hcs' (And.intro hres (And.intro t2 e2))))))))))
                clear hg hQ hO hT hTi hcs' hsz e2 hres p0
                go_wp2_with fail
                clear hP
                refine region_phasePut (Rg p) (fun w w' => w.grownBy w' none) (fun x => BoxV x 0 p 47 [.slice aa ls.length ca, .int .i64 L1]) (fun x => BoxV x 0 p 47 [.slice aa ls.length ca, .int .i64 (cp ls us[i] L1).2]) 9 (fun t => (kCpy p b o g7 i (.slice a0 i c0) (.slice (some ⟨bb, oo, none⟩) us.length cap) ⟨bb, oo + i * 3, none⟩ (n + m) (cp ls us[i] L1).1 wr.heap.size hq t).holds) (by rfl) (rg_draw _ wr) (fun w w' => rg_trans w w') rn_refl (fun _ _ h => grown_weak h) (HR.out.2.1.kept (rn_draw wr) (by simp)) (fun _ _ h k => k.kept h (by simp)) (fun _ _ h k => k.kept h (by simp)) (fun _ _ h => h.size) (fun t lo hi w w' v => Ki.mono _ lo hi w w' v) 100 11 (by rfl) (by kernel_rfl) (by kernel_rfl) (by kernel_rfl) (by kernel_rfl) [0, 1, 7, 8] (by kernel_rfl) ?_ (by decide) ?_ ?_
                · intro t ht
                  simp only [List.mem_cons, List.not_mem_nil, or_false] at ht
                  rcases ht with rfl | rfl | rfl | rfl <;> rfl
                · refine ⟨ph_val rfl rn_refl fun a w' hR hf => ?_, ph_val rfl rn_refl fun a w' hR hf => ?_, ph_val rfl rn_refl fun a w' hR hf => ?_, ph_val rfl rn_refl fun a w' hR hf => ?_, ph_val rfl rn_refl fun a w' hR hf => ?_, ph_val rfl rn_refl fun a w' hR hf => ?_, ph_val rfl rn_refl fun a w' hR hf => ?_, ph_val rfl rn_refl fun a w' hR hf => ?_, ph_val rfl rn_refl fun a w' hR hf => ?_, ph_wpC rfl fun a w' Q hR hJ hf => ?_, ph_wp rfl fun a w' Q hR hf => ?_, trivial⟩
                  · have h1 : a.tmps.getD 7 undef = .pointer (some ⟨g7, 0, none⟩) := ki_val rfl (hf 7 (by simp [Op.operands]))
                    go_simp
                  · have h1 : a.tmps.getD 86 undef = .pointer (some ⟨g7, 2, none⟩) := ki_val rfl (hf 86 (by simp [Op.operands]))
                    have x1 := hR.cell HR.out.2.2.2.2.2.2.2.2.2.2 (by simp; omega)
                    go_simp
                  · have h1 : a.tmps.getD 0 undef = .pointer (some ⟨p, 0, none⟩) := ki_val rfl (hf 0 (by simp [Op.operands]))
                    go_simp
                  · have h1 : a.tmps.getD 1 undef = .pointer (some ⟨b, o, none⟩) := ki_val rfl (hf 1 (by simp [Op.operands]))
                    go_simp
                  · have h1 : a.tmps.getD 89 undef = .pointer (some ⟨b, o, none⟩) := ki_val rfl (hf 89 (by simp [Op.operands]))
                    go_simp
                  · have h1 : a.tmps.getD 90 undef = .pointer (some ⟨b, o, none⟩) := ki_val rfl (hf 90 (by simp [Op.operands]))
                    go_simp
                  · have h1 : a.tmps.getD 91 undef = .pointer (some ⟨b, o + 2, none⟩) := ki_val rfl (hf 91 (by simp [Op.operands]))
                    have x1 := hR.cell HR.out.2.2.2.2.2.2.2.2.2.1 (by simp; exact hbp)
                    go_simp
                  · have h1 : a.tmps.getD 8 undef = .int .i64 i := ki_val rfl (hf 8 (by simp [Op.operands]))
                    go_simp
                  · have h1 : a.tmps.getD 92 undef = .slice (some ⟨bb, oo, none⟩) us.length cap := ki_val rfl (hf 92 (by simp [Op.operands]))
                    have h2 : a.tmps.getD 93 undef = .int .i64 i := ki_val rfl (hf 93 (by simp [Op.operands]))
                    go_simp
                  · have h1 : a.tmps.getD 88 undef = .pointer (some ⟨p, 0, none⟩) := ki_val rfl (hf 88 (by simp [Op.operands, Call.operands]))
                    have h2 : a.tmps.getD 94 undef = .pointer (some ⟨bb, oo + i * 3, none⟩) := ki_val rfl (hf 94 (by simp [Op.operands, Call.operands]))
                    have hrun : Sem.run Try.prog (execOp a.eval ⟨some 95, .call ⟨.value (.func 18), #[.tmp 88, .tmp 94], #[57, 49]⟩, 25, "types.go:121", #[⟨2, .data⟩, ⟨8, .data⟩], none⟩) w' = .ok (.enter 18 #[.pointer (some ⟨p, 0, none⟩), .pointer (some ⟨bb, oo + i * 3, none⟩)]) w' := by go_simp
                    have hmv : ∀ x y, cut w (· ≠ p) x = some y → cut w' (· ≠ p) x = some y := cut_grown (grown_trans HR.out.1 hR) fun b' _ hs => ⟨hs, fun e => hs (Option.some.inj e)⟩
                    unfold Oper.wp
                    rw [hrun, Oper.upon_enter]
                    refine (HA.out.1 (.slice aa ls.length ca) p bb (oo + i * 3) us[i] w' L1 [t0, t1, t2'] (cut_row hmv rfl HR.out.2.2.2.2.2.2.2.1) rfl (HR.out.2.2.2.2.2.1.kept hmv) (HA.out.2.2.2.1.kept hmv) hJ hneg' (by omega) HR.out.2.2.2.2.2.2.1).mono ?_
                    rintro e w8 ⟨r, rfl, hg8, hb8, hr⟩
                    exact ⟨r, rfl, hg8, hb8, hr.from hR.size⟩
                  · obtain ⟨_, _, k1, u1, a1, m1, c1, h1, hx⟩ : ∃ lo hi : Nat, AggTp wr.heap.size (n + m) (cp ls us[i] L1).1 w' (a.tmps.getD 95 undef) := hf 95 (by simp [Op.operands])
                    have h2 : a.tmps[95]?.getD undef = .agg #[.int .i64 k1, .int .i64 u1, .slice a1 m1 c1] := by rw [← Array.getD_eq_getD_getElem?]; exact h1
                    have hrun : Sem.run Try.prog (execOp a.eval ⟨some 96, .buildSlice 23 1 #[(0, .tmp 95)], 23, "types.go:121", #[⟨9, .data⟩], none⟩) w' = .ok (.value (.slice (some ⟨w'.heap.size, 0, none⟩) 1 1)) (w'.alloc (.cells #[.int .i64 k1, .int .i64 u1, .slice a1 m1 c1] 25)) := by go_simp
                    unfold Oper.wp
                    rw [hrun, Oper.upon_value]
                    exact ⟨_, rfl, World.grownBy_alloc _ _ _, SlB.new w' _ _ hR.size _ _ _ _ _ _ _ hx⟩
                · intro u w8 lo hi hR8 hf _ _ hK8
                  have f87 : u 87 = _ := hf 1 87 (by decide) rfl
                  obtain ⟨g, k1, u1, a1, m1, c1, _, f96, hnews, hx⟩ : SlB _ _ _ w8 (u 96) := hf 10 96 (by decide) rfl
                  simp only [putAll, List.drop_succ_cons, List.drop_zero, List.take_succ_cons, List.take_zero, Act.put, List.setIfInBounds_toArray, List.set_cons_succ, List.set_cons_zero]
                  rw [f87, f96]
                  clear hf f87 f96
                  have hT8 := HR.out.2.2.2.2.1.kept hR8 (fun q hq => by cases hq; exact .inl (by omega))
                  have hlt8 := own_len HR.out.2.2.2.2.1
                  have hg7r : g7 < wr.heap.size := HR.out.2.2.2.1.block.2
                  have hx8 : TpC (cut w8 (fun b => g7 + 1 ≤ b ∧ some b ≠ (Value.slice a0 i c0).ownBlock)) (n + m) [.int .i64 k1, .int .i64 u1, .slice a1 m1 c1] (cp ls us[i] L1).1 := hx.kept fun _ _ h => cut_le (fun b hb => ⟨by omega, fun e => by have := (hlt8 b e.symm).2; omega⟩) _ _ h
                  have hO8 := HR.out.2.2.2.1.kept hR8 (by simp; omega)
                  have hQ8 := HR.out.2.2.1.kept hR8 (by simp; omega)
                  have hn1 : ∀ j, j < g7 + 1 → some j ≠ (Value.slice a0 i c0).ownBlock := fun j hj e => by have := (hlt8 j e.symm).1; omega
                  have H8 := Lib.hid (And.intro hT8 (And.intro hx8 (And.intro hnews (And.intro hO8 (And.intro hK8 (And.intro hQ8 (And.intro (grown_trans HR.out.1 hR8) (And.intro hlt8 hn1))))))))
                  have hB8 : g7 + 1 ≤ w8.heap.size := by have := hR8.size; omega
                  have hl6 : made.length ≤ 1000000 := by omega
                  have hl8 : Hid ((made ++ [(cp ls us[i] L1).1]).length = i + 1) := Lib.hid (by rw [List.length_append, List.length_singleton]; omega)
                  clear hT8 hx8 hnews hO8 hQ8 hx hlt8 hn1 hR8 hK8
                  go_wp2_with (at_builtin; refine wpList_append_tp rfl _ _ rfl (g7 + 1) (n + m) _ made rfl H8.out.1 ⟨g, 0, none⟩ 1 _ _ _ _ rfl H8.out.2.2.1 H8.out.2.1 hl6 hB8 ?_; intro v9 w9 hT9 hg9 hv9; obtain ⟨a7, c7, hs7, hc7, hc8⟩ := hT9.shape; rw [hl8.out] at hs7; subst hs7; clear hc7 hc8; have hO9 := H8.out.2.2.2.1.kept hg9 (H8.out.2.2.2.2.2.2.2.2 g7 (Nat.lt_succ_self _)); have e7 := hO9.cell 2 (by simp); have f7 := hO9.frozen 2; have H9 := Lib.hid (And.intro hT9 (And.intro hg9 hO9)); clear hT9 hg9 hO9 hv9)
                  go_roundw
                  case rel =>
                    have hG := grown_set w9 g7 2 (.slice a7 (i + 1) c7)
                    have hb := cp_bound ls us[i] L1 hneg'
                    have hW9 : w.grownBy w9 (some p) := by
                      refine ⟨H9.out.2.1.os.trans H8.out.2.2.2.2.2.2.1.os, H9.out.2.1.tape.trans H8.out.2.2.2.2.2.2.1.tape, H9.out.2.1.output.trans H8.out.2.2.2.2.2.2.1.output, Nat.le_trans H8.out.2.2.2.2.2.2.1.size H9.out.2.1.size, fun q hq hn => (H9.out.2.1.block q (Nat.lt_of_lt_of_le hq H8.out.2.2.2.2.2.2.1.size) (H8.out.2.2.2.2.2.2.2.2 q (by omega))).trans (H8.out.2.2.2.2.2.2.1.block q hq hn)⟩
                    have hP9 := H8.out.2.2.2.2.1.kept H9.out.2.1 (H8.out.2.2.2.2.2.2.2.2 p (by omega))
                    have hQ9 := H8.out.2.2.2.2.2.1.kept H9.out.2.1 (H8.out.2.2.2.2.2.2.2.2 w.heap.size (by omega))
                    exact ⟨i + 1, (cp ls us[i] L1).2, _, made ++ [(cp ls us[i] L1).1], by omega, by go_num, hb.1, by omega, hl8.out, by rw [List.append_assoc]; exact HR.out.2.2.2.2.2.2.2.2.1, grown_more hW9 hG (.inl (by omega)), hP9.kept hG (by simp; omega), hQ9.kept hG (by simp; omega), boxV_setT H9.out.2.2 2 _, H9.out.1.kept hG (fun q hq => by cases hq; exact .inl (by omega))⟩
                  case measure => simp [intOf] <;> omega
          · obtain rfl : i = us.length := by omega
            rw [List.drop_length, cpL, List.append_nil] at hres
            have o0 := hO.cell 0 (by simp)
            have o1 := hO.cell 1 (by simp)
            have o2 := hO.cell 2 (by simp)
            have q0 := hQ.cell 0 (by simp)
            have q1 := hQ.cell 1 (by simp)
            have q2 := hQ.cell 2 (by simp)
            have q0' := hQ.frozen 0
            have q1' := hQ.frozen 1
            have q2' := hQ.frozen 2
            have HF := Lib.hid (And.intro hg (And.intro hP (And.intro hQ (And.intro hT hres))))
            clear hg hP hQ hO hT hres hlt
            go_wp2_with fail
            have hG3 := grown_set3 wr w.heap.size (.int .i64 k) (.int .i64 s) (.slice a0 us.length c0)
            have hQ3 : BoxV _ w.heap.size w.heap.size 25 [.int .i64 k, .int .i64 s, .slice a0 us.length c0] := boxV_setT (boxV_setT (boxV_setT HF.out.2.2.1 0 (.int .i64 k)) 1 (.int .i64 s)) 2 (.slice a0 us.length c0)
            have hB3 := HF.out.2.1.kept hG3 (by simp; omega)
            have hT3 := HF.out.2.2.2.1.kept hG3 (fun q hq => by cases hq; exact .inl (by omega))
            have hW3 := grown_more HF.out.1 hG3 (.inl (Nat.le_refl _))
            have hR9 : TpC (cut (((wr.setCell ⟨w.heap.size, 0, none⟩ (.int .i64 k)).setCell ⟨w.heap.size, 1, none⟩ (.int .i64 s)).setCell ⟨w.heap.size, 2, none⟩ (.slice a0 us.length c0)) (fun b => w.heap.size ≤ b)) (n + 1 + m) [.int .i64 k, .int .i64 s, .slice a0 us.length c0] (.mk k s made) := by
              rw [show n + 1 + m = n + m + 1 by omega]
              exact ⟨_, rfl, hk, hs, hT3.tps.kept (cut_le fun b h => by omega)⟩
            have HE := Lib.hid (And.intro hW3 (And.intro hB3 hR9))
            have hh := hQ3.heap
            clear o0 o1 o2 q0 q1 q2 q0' q1' q2' hG3 hQ3 hB3 hT3 hW3 hR9
            generalize ((wr.setCell ⟨w.heap.size, 0, none⟩ (.int .i64 k)).setCell ⟨w.heap.size, 1, none⟩ (.int .i64 s)).setCell ⟨w.heap.size, 2, none⟩ (.slice a0 us.length c0) = W9 at HE hh ⊢
            refine bodyPost_ret (v := .agg #[.int .i64 k, .int .i64 s, .slice a0 us.length c0]) (results_cell_row (P := Try.prog) Try.results18 _ _ w.heap.size 25 #[.int .i64 k, .int .i64 s, .slice a0 us.length c0] (0, 0) _ rfl hh Try.underlying25 rfl (by kernel_rfl)) rfl ?_
            rw [HF.out.2.2.2.2]
            exact ⟨_, rfl, HE.out.1, HE.out.2.1, _, _, _, _, _, rfl, HE.out.2.2⟩
end Go.Proofs.Ytkobfnpkebgmjaa
