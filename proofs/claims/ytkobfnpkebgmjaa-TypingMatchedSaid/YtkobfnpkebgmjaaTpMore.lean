/-
  The walks of typing.Subst, amortcostkeep.Types, amortcostlaw06.vars. Conditions: at most 1000 nodes.
-/
import Derived.Test.YtkobfnpkebgmjaaTpFields
import Derived.Test.YtkobfnpkebgmjaaMtPure
namespace Go.Proofs.Ytkobfnpkebgmjaa
open Go.RowKit Go.Deep

set_option maxRecDepth 100000 in
set_option maxHeartbeats 8000000 in
theorem subst14_any (ls : List Tp) (m n : Nat) (va : Value) (cs : List Value) (T : Tp) (w : World) (hT : TpC w.cell? n cs T) (hS0 : TpsC w.cell? m va ls) (hS : size T ≤ 100000) (hsa : ∀ t ∈ ls, size t ≤ 1000) :
    Calls Try.prog 14 #[.agg cs.toArray, va] w (fun e w' => ∃ r, e = .returned r ∧ Below w.heap.size w w' ∧ AggTp w.heap.size (n + m) (sub ls T) w' r) := by
  obtain ⟨k0, u0, a0, m0, c0, rfl⟩ := tp_shape hT
  have hS0' := hS0
  obtain ⟨aa, ca, rfl, hca, hca2, -⟩ := hS0
  have hP : BoxV (w.alloc (.cells #[.int .i64 k0, .int .i64 u0, .slice a0 m0 c0] 25)) w.heap.size w.heap.size 25 [.int .i64 k0, .int .i64 u0, .slice a0 m0 c0] := BoxV.new w w.heap.size 25 (Nat.le_refl _) _
  have hQ : BoxV ((w.alloc (.cells #[.int .i64 k0, .int .i64 u0, .slice a0 m0 c0] 25)).alloc (.cells #[.int .i64 0, .int .i64 0, .slice none 0 0] 25)) w.heap.size (w.heap.size + 1) 25 [.int .i64 0, .int .i64 0, .slice none 0 0] := by
    have := BoxV.new (w.alloc (.cells #[.int .i64 k0, .int .i64 u0, .slice a0 m0 c0] 25)) w.heap.size 25 (by simp) [.int .i64 0, .int .i64 0, .slice none 0 0]
    simpa using this
  have hX : BoxV (((w.alloc (.cells #[.int .i64 k0, .int .i64 u0, .slice a0 m0 c0] 25)).alloc (.cells #[.int .i64 0, .int .i64 0, .slice none 0 0] 25)).alloc (.cells #[.slice aa ls.length ca, .int .i64 9223372036854775807] 47)) 0 (w.heap.size + 1 + 1) 47 [.slice aa ls.length ca, .int .i64 9223372036854775807] := by
    have := BoxV.new ((w.alloc (.cells #[.int .i64 k0, .int .i64 u0, .slice a0 m0 c0] 25)).alloc (.cells #[.int .i64 0, .int .i64 0, .slice none 0 0] 25)) 0 47 (Nat.zero_le _) [.slice aa ls.length ca, .int .i64 9223372036854775807]
    simpa using this
  have hb : Below w.heap.size w (((w.alloc (.cells #[.int .i64 k0, .int .i64 u0, .slice a0 m0 c0] 25)).alloc (.cells #[.int .i64 0, .int .i64 0, .slice none 0 0] 25)).alloc (.cells #[.slice aa ls.length ca, .int .i64 9223372036854775807] 47)) := ((below_alloc1 w _).alloc (by simp) _).alloc (by simp; omega) _
  have hP3 := (hP.alloc (.cells #[.int .i64 0, .int .i64 0, .slice none 0 0] 25)).alloc (.cells #[.slice aa ls.length ca, .int .i64 9223372036854775807] 47)
  have hQ3 := hQ.alloc (.cells #[.slice aa ls.length ca, .int .i64 9223372036854775807] 47)
  have hmv : ∀ x y, w.cell? x = some y → cut (((w.alloc (.cells #[.int .i64 k0, .int .i64 u0, .slice a0 m0 c0] 25)).alloc (.cells #[.int .i64 0, .int .i64 0, .slice none 0 0] 25)).alloc (.cells #[.slice aa ls.length ca, .int .i64 9223372036854775807] 47)) (· ≠ w.heap.size + 1 + 1) x = some y := fun x y h => cut_some.2 ⟨by have := World.block_lt_of_cell? w _ h; omega, cell_below hb h⟩
  have hcs : ∀ j, j < 3 → cut (((w.alloc (.cells #[.int .i64 k0, .int .i64 u0, .slice a0 m0 c0] 25)).alloc (.cells #[.int .i64 0, .int .i64 0, .slice none 0 0] 25)).alloc (.cells #[.slice aa ls.length ca, .int .i64 9223372036854775807] 47)) (· ≠ w.heap.size + 1 + 1) ⟨w.heap.size, 0 + j, none⟩ = [Value.int .i64 k0, .int .i64 u0, .slice a0 m0 c0][j]? := fun j hj => by
    rw [Nat.zero_add]
    have h := hP3.cell j hj
    rw [List.getElem?_eq_getElem hj] at h ⊢
    exact cut_some.2 ⟨by show w.heap.size ≠ w.heap.size + 1 + 1; omega, h⟩
  have hbig : (size (sub ls T) : Int) ≤ 9223372036854775807 := by
    have h1 := size_sub ls 1000 hsa (by omega) T
    have h2 : size T * 1000 ≤ 100000 * 1000 := Nat.mul_le_mul_right _ hS
    omega
  have hval := (cp_ok ls T 9223372036854775807 (by omega)).1 hbig
  have hcall := copy_any ls m n (fun t ht => by have := hsa t ht; omega) (.slice aa ls.length ca) (w.heap.size + 1 + 1) w.heap.size 0 T _ 9223372036854775807 _ hcs rfl (hT.kept hmv) (hS0'.kept hmv) hX (by omega) (by omega) (by omega)
  rw [hval] at hcall
  have HA := Lib.hid (And.intro hcall (And.intro hb hQ3))
  clear hcall hP hQ hX hb hP3 hQ3 hmv hcs hbig hval hS0' hT hsa hS
  go_enter Try.func14, Try.ntmps14
  go_wp2_with fail
  refine HA.out.1.mono ?_
  rintro e w6 ⟨r, rfl, hg6, _, k1, u1, a1, m1, c1, rfl, hx⟩
  have hb6 := HA.out.2.1.grown hg6 HA.out.2.1.size (fun q hq => by cases hq; omega)
  have hQ6 := HA.out.2.2.kept hg6 (by simp)
  have q0 := hQ6.cell 0 (by simp)
  have q1 := hQ6.cell 1 (by simp)
  have q2 := hQ6.cell 2 (by simp)
  have q0' := hQ6.frozen 0
  have q1' := hQ6.frozen 1
  have q2' := hQ6.frozen 2
  have HB := Lib.hid (And.intro hx (And.intro hb6 hQ6))
  clear hx hb6 hQ6 hg6
  go_wp2_with fail
  have hG := grown_set3 w6 (w.heap.size + 1) (.int .i64 k1) (.int .i64 u1) (.slice a1 m1 c1)
  have hQ9 : BoxV _ w.heap.size (w.heap.size + 1) 25 [.int .i64 k1, .int .i64 u1, .slice a1 m1 c1] := boxV_setT (boxV_setT (boxV_setT HB.out.2.2 0 (.int .i64 k1)) 1 (.int .i64 u1)) 2 (.slice a1 m1 c1)
  have hx9 := HB.out.1.kept (cut_grown hG (T := fun b => w.heap.size ≤ b) fun b _ hs => by
    simp only [World.size_alloc] at hs
    exact ⟨by omega, by simp; omega⟩)
  have hb9 := HB.out.2.1.grown hG HB.out.2.1.size (fun q hq => by cases hq; omega)
  have hh := hQ9.heap
  have HE := Lib.hid (And.intro hb9 hx9)
  clear q0 q1 q2 q0' q1' q2' hG hQ9 hx9 hb9
  generalize ((w6.setCell ⟨w.heap.size + 1, 0, none⟩ (.int .i64 k1)).setCell ⟨w.heap.size + 1, 1, none⟩ (.int .i64 u1)).setCell ⟨w.heap.size + 1, 2, none⟩ (.slice a1 m1 c1) = W9 at HE hh ⊢
  exact bodyPost_ret (v := .agg #[.int .i64 k1, .int .i64 u1, .slice a1 m1 c1]) (results_cell_row (P := Try.prog) Try.results14 _ _ (w.heap.size + 1) 25 #[.int .i64 k1, .int .i64 u1, .slice a1 m1 c1] (0, 0) _ rfl hh Try.underlying25 rfl (by kernel_rfl)) rfl ⟨_, rfl, HE.out.1, _, _, _, _, _, rfl, HE.out.2⟩

def TypesP (l : List Tp) (N : Nat) (w : World) (e : Ending) (w' : World) : Prop := ∃ r, e = .returned (.bool r) ∧ Below w.heap.size w w' ∧ (r = true → l.length ≤ N ∧ ∀ t ∈ l, size t ≤ 250)
set_option maxRecDepth 100000 in
set_option maxHeartbeats 8000000 in
theorem types_any (n N : Nat) (v : Value) (l : List Tp) (w : World) (hv : TpsC w.cell? n v l) (hN : N ≤ 1000) :
    Calls Try.prog 10 #[v, .int .i64 N] w (TypesP l N w) := by
  have hv' := hv
  obtain ⟨a, cap, rfl, hcap, hcap2, -⟩ := hv
  have HA := Lib.hid hv'
  clear hv'
  go_enter Try.func10, Try.ntmps10
  go_wp2_with fail
  go_loopw [5] (fun x wr => ∃ i : Nat, i ≤ l.length ∧ i ≤ N + 1 ∧ x = .int .i64 i ∧ Hid (∀ j (_ : j < l.length), j < i → size l[j] ≤ 250) ∧ Below w.heap.size w wr) (fun x _ => l.length - (intOf x).toNat)
  case atStart => exact ⟨0, Nat.zero_le _, Nat.zero_le _, rfl, Lib.hid fun j _ h => by omega, Below.refl _ _⟩
  case round =>
    obtain ⟨i, hi, hi2, rfl, hall, hb⟩ := hrel
    by_cases hlt : i < l.length
    · have hii : (i : Int) < (l.length : Int) := by omega
      by_cases hiN : i ≤ N
      · have hiN' : (i : Int) ≤ (N : Int) := by omega
        obtain ⟨b, o, t0, t1, t2, rfl, c0, c1, c2, ht⟩ := TpsC.cells (HA.out.kept fun _ _ h => cell_below hb h) hlt
        have H1 := Lib.hid (And.intro ht (And.intro hb hall.out))
        clear ht hb hall
        go_wp2_with fail
        refine (type_any n [t0, t1, t2] l[i] wr H1.out.1).mono ?_
        rintro e w2 ⟨rfl, hb2⟩
        obtain ⟨r, hr⟩ : ∃ r, tpB l[i] = r := ⟨_, rfl⟩
        rw [hr]
        cases r
        · have HF := Lib.hid (below_next' H1.out.2.1 hb2)
          clear hb2 hr c0 c1 c2
          go_wp2_with fail
          go_ret
          exact ⟨false, rfl, HF.out, fun h => by cases h⟩
        · have HF := Lib.hid (And.intro (below_next' H1.out.2.1 hb2) (show ∀ j (_ : j < l.length), j < i + 1 → size l[j] ≤ 250 from fun j hj h => by
            by_cases e : j = i
            · subst e; exact tpB_size hr
            · exact H1.out.2.2 j hj (by omega)))
          clear hb2 hr c0 c1 c2
          go_wp2_with fail
          go_roundw
          case rel => exact ⟨i + 1, by omega, by omega, by go_num, Lib.hid HF.out.2, HF.out.1⟩
          case measure => simp [intOf] <;> omega
      · have hiN' : ¬ (i : Int) ≤ (N : Int) := by omega
        have hle : ¬ (l.length : Int) ≤ (N : Int) := by omega
        have HF := Lib.hid hb
        clear hall hb
        go_wp2_with fail
        go_ret
        exact ⟨false, rfl, HF.out, fun h => by cases h⟩
    · obtain rfl : i = l.length := by omega
      have hall' : ∀ t ∈ l, size t ≤ 250 := fun t ht => by
        obtain ⟨j, hj, rfl⟩ := List.getElem_of_mem ht
        exact hall.out j hj hj
      by_cases hle : l.length ≤ N
      · have hle' : (l.length : Int) ≤ (N : Int) := by omega
        have HF := Lib.hid (And.intro hb (And.intro hle hall'))
        clear hall hall' hlt hb hle
        go_wp2_with fail
        go_ret
        exact ⟨true, rfl, HF.out.1, fun _ => HF.out.2⟩
      · have hle' : ¬ (l.length : Int) ≤ (N : Int) := by omega
        have HF := Lib.hid hb
        clear hall hall' hlt hb
        go_wp2_with fail
        go_ret
        exact ⟨false, rfl, HF.out, fun h => by cases h⟩

theorem varsL_of {n : Int} : ∀ {us : List Tp}, (∀ j (h : j < us.length), VarsT n us[j]) → VarsL n us
  | [], _ => by unfold VarsL; trivial
  | t :: ts, h => by
    unfold VarsL
    exact ⟨h 0 (by simp), varsL_of fun j hj => by have := h (j + 1) (by simpa using hj); simpa using this⟩
def VarsP (T : Tp) (N : Int) (w : World) (e : Ending) (w' : World) : Prop := ∃ r, e = .returned (.bool r) ∧ Below w.heap.size w w' ∧ (r = true → VarsT N T)
set_option maxRecDepth 100000 in
set_option maxHeartbeats 8000000 in
theorem vars_any (N : Int) : ∀ (n : Nat) (cs : List Value) (T : Tp) (w : World), TpC w.cell? n cs T → Calls Try.prog 15 #[.agg cs.toArray, .int .i64 N] w (VarsP T N w) := by
  intro n
  induction n with
  | zero => intro cs T w h; exact h.elim
  | succ n ih =>
    intro cs T w hT
    obtain ⟨k, u, us⟩ := T
    obtain ⟨v, rfl, hk, hu, hrow⟩ := hT
    have hrow1 := hrow
    obtain ⟨a, cap, rfl, hcap, hcap2, -⟩ := hrow
    have hb := below_alloc1 w (.cells #[.int .i64 k, .int .i64 u, .slice a us.length cap] 25)
    have HA := Lib.hid (And.intro (show TpsC w.cell? n _ us from hrow1) (And.intro ih hb))
    clear hrow1 ih hb
    by_cases h4 : (k == 4) = true
    · by_cases h0 : 0 ≤ u
      · by_cases h1 : u < N
        · by_cases h2 : us.length = 0
          · have h2' : ((us.length : Int) == 0) = true := by simp [h2]
            have hV : Hid (VarsT N (.mk k u us)) := Lib.hid (by
              unfold VarsT
              exact ⟨fun _ => ⟨h0, h1, List.eq_nil_of_length_eq_zero h2⟩, fun h => absurd (by simpa using h4) h⟩)
            clear h2
            go_enter Try.func15, Try.ntmps15
            go_wp2_with fail
            go_ret
            first
              | exact ⟨_, rfl, HA.out.2.2, fun _ => hV.out⟩
              | (refine ⟨_, rfl, HA.out.2.2, fun _ => hV.out⟩)
          · have h2' : ((us.length : Int) == 0) = false := by rw [beq_eq_false_iff_ne]; omega
            clear h2
            go_enter Try.func15, Try.ntmps15
            go_wp2_with fail
            go_ret
            exact ⟨false, rfl, HA.out.2.2, fun h => by cases h⟩
        · have h1' : decide (u < N) = false := decide_eq_false h1
          clear h1
          go_enter Try.func15, Try.ntmps15
          go_wp2_with fail
          go_ret
          exact ⟨false, rfl, HA.out.2.2, fun h => by cases h⟩
      · have h0' : decide (0 ≤ u) = false := decide_eq_false h0
        go_enter Try.func15, Try.ntmps15
        go_wp2_with fail
        go_ret
        exact ⟨false, rfl, HA.out.2.2, fun h => by cases h⟩
    · have h4' : (k == 4) = false := by simpa using h4
      have hk4 := Lib.hid (show k ≠ 4 by simpa using h4)
      clear h4
      go_enter Try.func15, Try.ntmps15
      go_wp2_with fail
      go_loopw [28] (fun x wr => ∃ i : Nat, i ≤ us.length ∧ x = .int .i64 i ∧ Hid (∀ j (_ : j < us.length), j < i → VarsT N us[j]) ∧ Below w.heap.size w wr) (fun x _ => us.length - (intOf x).toNat)
      case atStart => exact ⟨0, Nat.zero_le _, rfl, Lib.hid fun j _ h => by omega, HA.out.2.2⟩
      case round =>
        obtain ⟨i, hi, rfl, hall, hb⟩ := hrel
        by_cases hlt : i < us.length
        · have hii : (i : Int) < (us.length : Int) := by omega
          obtain ⟨b, o, t0, t1, t2, rfl, c0, c1, c2, ht⟩ := TpsC.cells (HA.out.1.kept fun _ _ h => cell_below hb h) hlt
          obtain ⟨k0, u0, a0, m0, p0, e0⟩ := tp_shape ht
          simp only [List.cons.injEq, and_true] at e0
          obtain ⟨rfl, rfl, rfl⟩ := e0
          have hb1 := below_alloc1 wr (.cells #[.int .i64 k0, .int .i64 u0, .slice a0 m0 p0] 25)
          have H1 := Lib.hid (And.intro (ht.kept fun _ _ h => cell_below hb1 h) (And.intro (below_next' hb hb1) hall.out))
          clear ht hb hb1 hall
          go_wp2_with fail
          refine (HA.out.2.1 _ us[i] _ H1.out.1).mono ?_
          rintro e w2 ⟨r, rfl, hb2, hok⟩
          cases r
          · have HF := Lib.hid (below_next' H1.out.2.1 hb2)
            clear hb2 hok c0 c1 c2
            go_wp2_with fail
            go_ret
            exact ⟨false, rfl, HF.out, fun h => by cases h⟩
          · have HF := Lib.hid (And.intro (below_next' H1.out.2.1 hb2) (show ∀ j (_ : j < us.length), j < i + 1 → VarsT N us[j] from fun j hj h => by
              by_cases e : j = i
              · subst e; exact hok rfl
              · exact H1.out.2.2 j hj (by omega)))
            clear hb2 hok c0 c1 c2
            go_wp2_with fail
            go_roundw
            case rel => exact ⟨i + 1, by omega, by go_num, Lib.hid HF.out.2, HF.out.1⟩
            case measure => simp [intOf] <;> omega
        · obtain rfl : i = us.length := by omega
          have HF := Lib.hid (And.intro hb (show VarsT N (.mk k u us) from by
            unfold VarsT
            exact ⟨fun h => absurd h hk4.out, fun _ => varsL_of fun j hj => hall.out j hj hj⟩))
          clear hall hlt hb
          go_wp2_with fail
          go_ret
          exact ⟨true, rfl, HF.out.1, fun _ => HF.out.2⟩
end Go.Proofs.Ytkobfnpkebgmjaa
