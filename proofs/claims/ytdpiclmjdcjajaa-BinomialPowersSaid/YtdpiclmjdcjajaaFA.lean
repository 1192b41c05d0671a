/-
  The walk of combine on two lists. Condition: at most 40 numbers.
-/
import Derived.Test.YtdpiclmjdcjajaaChooses
namespace Go.Proofs.Ytdpiclmjdcjajaa
open Go.RowKit Num

/-- The numbers of a list, continued with zeros. -/
def ext (n : Nat) (f : Nat → Rat) : Nat → Rat := fun i => if i < n then f i else 0
theorem ext_lt {n i : Nat} (f : Nat → Rat) (h : i < n) : ext n f i = f i := if_pos h
theorem ext_ge {n i : Nat} (f : Nat → Rat) (h : n ≤ i) : ext n f i = 0 := if_neg (by omega)
theorem ratA_zero (w : World) (k : Nat) : RatA w (.agg #[.bool false, .slice none 0 0, .slice none 0 0]) k 0 := by
  have hl : Lim w (.slice none ([] : List Nat).length 0) [] := ⟨none, 0, rfl, Nat.le_refl _, by omega, fun i => by rw [show nth ([] : List Nat) i = 0 from rfl]; omega, fun i hi => absurd hi (Nat.not_lt_zero _)⟩
  exact ⟨false, none, 0, none, 0, [], [], rfl, hl, hl, Nat.zero_le _, Nat.zero_le _, (rat_zero_den _ _).symm⟩
theorem callFunc70 (x y : Value) (w : World) : Sem.run Try.prog (callFunc 70 #[x, y]) w = .ok (.enter 70 #[x, y]) w := by go_simp

set_option maxRecDepth 100000 in
set_option maxHeartbeats 8000000 in
theorem combineL_any (F : FuncId) (op : Rat → Rat → Rat) (a1 a2 : Option Addr) (n1 n2 c1 c2 k1 k2 N : Nat) (f g : Nat → Rat) (w : World) (hu : LstA w (.slice a1 n1 c1) n1 k1 f) (hv : LstA w (.slice a2 n2 c2) n2 k2 g) (hn1 : n1 ≤ 40) (hn2 : n2 ≤ 40)
    (hN : (n1 < n2 ∧ n2 = N) ∨ (¬ n1 < n2 ∧ n1 = N)) (hcall : ∀ x y w, Sem.run Try.prog (callFunc F #[x, y]) w = .ok (.enter F #[x, y]) w) (hc : ∀ w x y p q, RatA w x k1 p → RatA w y k2 q → Calls Try.prog F #[x, y] w (RatP (op p q) w)) :
    Calls Try.prog 69 #[.slice a1 n1 c1, .slice a2 n2 c2, .func (.func F) #[] #[]] w (ListP N (fun i => op (ext n1 f i) (ext n2 g i)) w) := by
  obtain ⟨H, hH⟩ : ∃ H, (fun i => op (ext n1 f i) (ext n2 g i)) = H := ⟨_, rfl⟩
  rw [hH]
  have hb0 := below_alloc1 w (.cells (madeCells #[.bool false, .slice none 0 0, .slice none 0 0] (N * 3)) 24)
  have hL0 := LstI.new w w.heap.size N H (Nat.le_refl _)
  have HA := Lib.hid (And.intro hu (And.intro hv (And.intro hc (And.intro hH (And.intro hb0 hL0)))))
  clear hu hv hc hH hb0 hL0
  go_enter Try.func69, Try.ntmps69
  rcases hN with ⟨hlt0, rfl⟩ | ⟨hlt0, rfl⟩
  · go_wp2_with fail
    rw [run_make32 n2 w (by omega)]
    go_wp2_with fail
    go_loopw [19] (fun x wr => ∃ q : Nat, q ≤ n2 ∧ x = .int .i64 q ∧ LstI w.heap.size w.heap.size n2 H q wr ∧ Below w.heap.size w wr) (fun x _ => n2 - (intOf x).toNat)
    case atStart => exact ⟨0, Nat.zero_le _, rfl, HA.out.2.2.2.2.2, HA.out.2.2.2.2.1⟩
    case round =>
      obtain ⟨q, hq, rfl, hT, hbel⟩ := hrel
      by_cases hlt : q < n2
      · have hqi : (q : Int) < (n2 : Int) := by omega
        have hc2 : q < n2 := by omega
        by_cases hc1 : q < n1
        · have hq1 : (q : Int) < (n1 : Int) := by omega
          obtain ⟨b1, o1, _, _, _, hb1e, i0, i1, i2, hr1⟩ := (HA.out.1.below hbel).elem (i := q) (by omega)
          subst hb1e
          obtain ⟨s1, a1, l1, d1, a1', l1', d1', rfl, rfl, rfl⟩ := hr1.shape
          have hq2 : (q : Int) < (n2 : Int) := by omega
          obtain ⟨b2, o2, _, _, _, hb2e, j0, j1, j2, hr2⟩ := (HA.out.2.1.below hbel).elem (i := q) (by omega)
          subst hb2e
          obtain ⟨s2, a2, l2, d2, a2', l2', d2', rfl, rfl, rfl⟩ := hr2.shape
          have hb2 := fun cs ds : Array Value => (((Below.refl wr.heap.size wr).alloc (Nat.le_refl _) (.cells cs 24)).alloc (by simp) (.cells ds 24) : Below wr.heap.size wr ((wr.alloc (.cells cs 24)).alloc (.cells ds 24)))
          have i0' := cell_below (hb2 #[.bool false, .slice none 0 0, .slice none 0 0] #[.bool false, .slice none 0 0, .slice none 0 0]) i0
          have i1' : World.cell? _ ⟨b1, o1 + q * 3 + 1, none⟩ = some _ := cell_below (hb2 #[.bool false, .slice none 0 0, .slice none 0 0] #[.bool false, .slice none 0 0, .slice none 0 0]) i1
          have i2' : World.cell? _ ⟨b1, o1 + q * 3 + 2, none⟩ = some _ := cell_below (hb2 #[.bool false, .slice none 0 0, .slice none 0 0] #[.bool false, .slice none 0 0, .slice none 0 0]) i2
          have j0' := cell_below (hb2 #[.bool s1, .slice a1 l1 d1, .slice a1' l1' d1'] #[.bool false, .slice none 0 0, .slice none 0 0]) j0
          have j1' : World.cell? _ ⟨b2, o2 + q * 3 + 1, none⟩ = some _ := cell_below (hb2 #[.bool s1, .slice a1 l1 d1, .slice a1' l1' d1'] #[.bool false, .slice none 0 0, .slice none 0 0]) j1
          have j2' : World.cell? _ ⟨b2, o2 + q * 3 + 2, none⟩ = some _ := cell_below (hb2 #[.bool s1, .slice a1 l1 d1, .slice a1' l1' d1'] #[.bool false, .slice none 0 0, .slice none 0 0]) j2
          have hz : ∀ o, (wr.alloc o).heap.size = wr.heap.size + 1 := fun o => Array.size_push _
          have hB9 := fun x y z u v t => (BoxV.new wr w.heap.size 24 hbel.size [x, y, z]).below (below_alloc1 _ (.cells #[u, v, t] 24))
          have hB10 := fun o x y z => BoxV.new (wr.alloc o) w.heap.size 24 (by rw [hz]; exact Nat.le_succ_of_le hbel.size) [x, y, z]
          simp only [hz] at hB10
          obtain ⟨⟨p0, p1, p2⟩, p3, p4, p5⟩ := (hB9 (.bool false) (.slice none 0 0) (.slice none 0 0) (.bool false) (.slice none 0 0) (.slice none 0 0)).three
          obtain ⟨⟨q0, q1, q2⟩, q3, q4, q5⟩ := (hB10 (.cells #[.bool s1, .slice a1 l1 d1, .slice a1' l1' d1'] 24) (.bool false) (.slice none 0 0) (.slice none 0 0)).three
          have HR := Lib.hid (And.intro hT (And.intro hbel (And.intro hr1 (And.intro hr2 (hb2 #[.bool s1, .slice a1 l1 d1, .slice a1' l1' d1'] #[.bool s2, .slice a2 l2 d2, .slice a2' l2' d2'])))))
          clear hB9 hB10 hz hT hbel hb2 hr1 i0 i1 i2 hr2 j0 j1 j2
          go_wp2_with fail
          refine (HA.out.2.2.1 _ _ _ _ _ (HR.out.2.2.1.below HR.out.2.2.2.2) (HR.out.2.2.2.1.below HR.out.2.2.2.2)).mono ?_
          rintro e w5 ⟨v, rfl, hv, hb5⟩
          have hbb := below_next' HR.out.2.2.2.2 hb5
          have hT5 := HR.out.1.below hbb
          have hval : op (f q) (g q) = H q := by rw [← HA.out.2.2.2.1]; show _ = op (ext n1 f q) (ext n2 g q); rw [(ext_lt f (by omega : q < n1)), (ext_lt g (by omega : q < n2))]
          rw [hval] at hv
          have hC := hv
          obtain ⟨m1, m2, m3, m4, m5, m6, rfl, _⟩ := hv
          have hT6 := hT5.store hlt hC
          obtain ⟨xs, l1x, l2x, l3x, _⟩ := hT5
          have hxl : q * 3 + 2 < xs.length := by omega
          have t0 : w5.cell? ⟨w.heap.size, q * 3, none⟩ = some xs[q * 3] := by rw [l1x.cell _ (by omega)]; exact List.getElem?_eq_getElem _
          have t1 : w5.cell? ⟨w.heap.size, q * 3 + 1, none⟩ = some xs[q * 3 + 1] := by rw [l1x.cell _ (by omega)]; exact List.getElem?_eq_getElem _
          have t2 : w5.cell? ⟨w.heap.size, q * 3 + 2, none⟩ = some xs[q * 3 + 2] := by rw [l1x.cell _ (by omega)]; exact List.getElem?_eq_getElem _
          have f0 := l1x.frozen (q * 3)
          have f1 := l1x.frozen (q * 3 + 1)
          have f2 := l1x.frozen (q * 3 + 2)
          generalize xs[q * 3] = xa at t0
          generalize xs[q * 3 + 1] = xb at t1
          generalize xs[q * 3 + 2] = xc at t2
          obtain ⟨s, hs⟩ : ∃ s, decide ((H q).num < 0) = s := ⟨_, rfl⟩
          rw [hs] at hT6 ⊢
          have hbel6 := (((below_next' HR.out.2.1 hbb).setCell (p := ⟨w.heap.size, q * 3, none⟩) (Nat.le_refl _) (.bool s)).setCell (p := ⟨w.heap.size, q * 3 + 1, none⟩) (Nat.le_refl _) (.slice m1 m2 m3)).setCell (p := ⟨w.heap.size, q * 3 + 2, none⟩) (Nat.le_refl _) (.slice m4 m5 m6)
          have HN := Lib.hid (And.intro hT6 hbel6)
          clear hC hT6 l1x l2x l3x hxl hbel6 hs hbb hb5 hval p0 p1 p2 p3 p4 p5 q0 q1 q2 q3 q4 q5 i0' i1' i2' j0' j1' j2'
          go_wp2
          go_roundw
          case rel => exact ⟨q + 1, by omega, by go_num, HN.out⟩
          case measure => simp [intOf]; omega
        · have hq1 : ¬ (q : Int) < (n1 : Int) := by omega
          have hq2 : (q : Int) < (n2 : Int) := by omega
          obtain ⟨b2, o2, _, _, _, hb2e, j0, j1, j2, hr2⟩ := (HA.out.2.1.below hbel).elem (i := q) (by omega)
          subst hb2e
          obtain ⟨s2, a2, l2, d2, a2', l2', d2', rfl, rfl, rfl⟩ := hr2.shape
          have hb2 := fun cs ds : Array Value => (((Below.refl wr.heap.size wr).alloc (Nat.le_refl _) (.cells cs 24)).alloc (by simp) (.cells ds 24) : Below wr.heap.size wr ((wr.alloc (.cells cs 24)).alloc (.cells ds 24)))
          have j0' := cell_below (hb2 #[.bool false, .slice none 0 0, .slice none 0 0] #[.bool false, .slice none 0 0, .slice none 0 0]) j0
          have j1' : World.cell? _ ⟨b2, o2 + q * 3 + 1, none⟩ = some _ := cell_below (hb2 #[.bool false, .slice none 0 0, .slice none 0 0] #[.bool false, .slice none 0 0, .slice none 0 0]) j1
          have j2' : World.cell? _ ⟨b2, o2 + q * 3 + 2, none⟩ = some _ := cell_below (hb2 #[.bool false, .slice none 0 0, .slice none 0 0] #[.bool false, .slice none 0 0, .slice none 0 0]) j2
          have hz : ∀ o, (wr.alloc o).heap.size = wr.heap.size + 1 := fun o => Array.size_push _
          have hB9 := fun x y z u v t => (BoxV.new wr w.heap.size 24 hbel.size [x, y, z]).below (below_alloc1 _ (.cells #[u, v, t] 24))
          have hB10 := fun o x y z => BoxV.new (wr.alloc o) w.heap.size 24 (by rw [hz]; exact Nat.le_succ_of_le hbel.size) [x, y, z]
          simp only [hz] at hB10
          obtain ⟨⟨p0, p1, p2⟩, p3, p4, p5⟩ := (hB9 (.bool false) (.slice none 0 0) (.slice none 0 0) (.bool false) (.slice none 0 0) (.slice none 0 0)).three
          obtain ⟨⟨q0, q1, q2⟩, q3, q4, q5⟩ := (hB10 (.cells #[.bool false, .slice none 0 0, .slice none 0 0] 24) (.bool false) (.slice none 0 0) (.slice none 0 0)).three
          have HR := Lib.hid (And.intro hT (And.intro hbel (And.intro (ratA_zero wr k1) (And.intro hr2 (hb2 #[.bool false, .slice none 0 0, .slice none 0 0] #[.bool s2, .slice a2 l2 d2, .slice a2' l2' d2'])))))
          clear hB9 hB10 hz hT hbel hb2 hr2 j0 j1 j2
          go_wp2_with fail
          refine (HA.out.2.2.1 _ _ _ _ _ (HR.out.2.2.1.below HR.out.2.2.2.2) (HR.out.2.2.2.1.below HR.out.2.2.2.2)).mono ?_
          rintro e w5 ⟨v, rfl, hv, hb5⟩
          have hbb := below_next' HR.out.2.2.2.2 hb5
          have hT5 := HR.out.1.below hbb
          have hval : op 0 (g q) = H q := by rw [← HA.out.2.2.2.1]; show _ = op (ext n1 f q) (ext n2 g q); rw [(ext_ge f (by omega : n1 ≤ q)), (ext_lt g (by omega : q < n2))]
          rw [hval] at hv
          have hC := hv
          obtain ⟨m1, m2, m3, m4, m5, m6, rfl, _⟩ := hv
          have hT6 := hT5.store hlt hC
          obtain ⟨xs, l1x, l2x, l3x, _⟩ := hT5
          have hxl : q * 3 + 2 < xs.length := by omega
          have t0 : w5.cell? ⟨w.heap.size, q * 3, none⟩ = some xs[q * 3] := by rw [l1x.cell _ (by omega)]; exact List.getElem?_eq_getElem _
          have t1 : w5.cell? ⟨w.heap.size, q * 3 + 1, none⟩ = some xs[q * 3 + 1] := by rw [l1x.cell _ (by omega)]; exact List.getElem?_eq_getElem _
          have t2 : w5.cell? ⟨w.heap.size, q * 3 + 2, none⟩ = some xs[q * 3 + 2] := by rw [l1x.cell _ (by omega)]; exact List.getElem?_eq_getElem _
          have f0 := l1x.frozen (q * 3)
          have f1 := l1x.frozen (q * 3 + 1)
          have f2 := l1x.frozen (q * 3 + 2)
          generalize xs[q * 3] = xa at t0
          generalize xs[q * 3 + 1] = xb at t1
          generalize xs[q * 3 + 2] = xc at t2
          obtain ⟨s, hs⟩ : ∃ s, decide ((H q).num < 0) = s := ⟨_, rfl⟩
          rw [hs] at hT6 ⊢
          have hbel6 := (((below_next' HR.out.2.1 hbb).setCell (p := ⟨w.heap.size, q * 3, none⟩) (Nat.le_refl _) (.bool s)).setCell (p := ⟨w.heap.size, q * 3 + 1, none⟩) (Nat.le_refl _) (.slice m1 m2 m3)).setCell (p := ⟨w.heap.size, q * 3 + 2, none⟩) (Nat.le_refl _) (.slice m4 m5 m6)
          have HN := Lib.hid (And.intro hT6 hbel6)
          clear hC hT6 l1x l2x l3x hxl hbel6 hs hbb hb5 hval p0 p1 p2 p3 p4 p5 q0 q1 q2 q3 q4 q5 j0' j1' j2'
          go_wp2
          go_roundw
          case rel => exact ⟨q + 1, by omega, by go_num, HN.out⟩
          case measure => simp [intOf]; omega
      · obtain rfl : q = n2 := by omega
        have HF := Lib.hid (And.intro hT hbel)
        clear hT hbel hlt
        go_wp2
        go_ret
        exact ⟨_, rfl, HF.out.1, HF.out.2⟩
  · go_wp2_with fail
    rw [run_make32 n1 w (by omega)]
    go_wp2_with fail
    go_loopw [19] (fun x wr => ∃ q : Nat, q ≤ n1 ∧ x = .int .i64 q ∧ LstI w.heap.size w.heap.size n1 H q wr ∧ Below w.heap.size w wr) (fun x _ => n1 - (intOf x).toNat)
    case atStart => exact ⟨0, Nat.zero_le _, rfl, HA.out.2.2.2.2.2, HA.out.2.2.2.2.1⟩
    case round =>
      obtain ⟨q, hq, rfl, hT, hbel⟩ := hrel
      by_cases hlt : q < n1
      · have hqi : (q : Int) < (n1 : Int) := by omega
        have hc1 : q < n1 := by omega
        by_cases hc2 : q < n2
        · have hq1 : (q : Int) < (n1 : Int) := by omega
          obtain ⟨b1, o1, _, _, _, hb1e, i0, i1, i2, hr1⟩ := (HA.out.1.below hbel).elem (i := q) (by omega)
          subst hb1e
          obtain ⟨s1, a1, l1, d1, a1', l1', d1', rfl, rfl, rfl⟩ := hr1.shape
          have hq2 : (q : Int) < (n2 : Int) := by omega
          obtain ⟨b2, o2, _, _, _, hb2e, j0, j1, j2, hr2⟩ := (HA.out.2.1.below hbel).elem (i := q) (by omega)
          subst hb2e
          obtain ⟨s2, a2, l2, d2, a2', l2', d2', rfl, rfl, rfl⟩ := hr2.shape
          have hb2 := fun cs ds : Array Value => (((Below.refl wr.heap.size wr).alloc (Nat.le_refl _) (.cells cs 24)).alloc (by simp) (.cells ds 24) : Below wr.heap.size wr ((wr.alloc (.cells cs 24)).alloc (.cells ds 24)))
          have i0' := cell_below (hb2 #[.bool false, .slice none 0 0, .slice none 0 0] #[.bool false, .slice none 0 0, .slice none 0 0]) i0
          have i1' : World.cell? _ ⟨b1, o1 + q * 3 + 1, none⟩ = some _ := cell_below (hb2 #[.bool false, .slice none 0 0, .slice none 0 0] #[.bool false, .slice none 0 0, .slice none 0 0]) i1
          have i2' : World.cell? _ ⟨b1, o1 + q * 3 + 2, none⟩ = some _ := cell_below (hb2 #[.bool false, .slice none 0 0, .slice none 0 0] #[.bool false, .slice none 0 0, .slice none 0 0]) i2
          have j0' := cell_below (hb2 #[.bool s1, .slice a1 l1 d1, .slice a1' l1' d1'] #[.bool false, .slice none 0 0, .slice none 0 0]) j0
          have j1' : World.cell? _ ⟨b2, o2 + q * 3 + 1, none⟩ = some _ := cell_below (hb2 #[.bool s1, .slice a1 l1 d1, .slice a1' l1' d1'] #[.bool false, .slice none 0 0, .slice none 0 0]) j1
          have j2' : World.cell? _ ⟨b2, o2 + q * 3 + 2, none⟩ = some _ := cell_below (hb2 #[.bool s1, .slice a1 l1 d1, .slice a1' l1' d1'] #[.bool false, .slice none 0 0, .slice none 0 0]) j2
          have hz : ∀ o, (wr.alloc o).heap.size = wr.heap.size + 1 := fun o => Array.size_push _
          have hB9 := fun x y z u v t => (BoxV.new wr w.heap.size 24 hbel.size [x, y, z]).below (below_alloc1 _ (.cells #[u, v, t] 24))
          have hB10 := fun o x y z => BoxV.new (wr.alloc o) w.heap.size 24 (by rw [hz]; exact Nat.le_succ_of_le hbel.size) [x, y, z]
          simp only [hz] at hB10
          obtain ⟨⟨p0, p1, p2⟩, p3, p4, p5⟩ := (hB9 (.bool false) (.slice none 0 0) (.slice none 0 0) (.bool false) (.slice none 0 0) (.slice none 0 0)).three
          obtain ⟨⟨q0, q1, q2⟩, q3, q4, q5⟩ := (hB10 (.cells #[.bool s1, .slice a1 l1 d1, .slice a1' l1' d1'] 24) (.bool false) (.slice none 0 0) (.slice none 0 0)).three
          have HR := Lib.hid (And.intro hT (And.intro hbel (And.intro hr1 (And.intro hr2 (hb2 #[.bool s1, .slice a1 l1 d1, .slice a1' l1' d1'] #[.bool s2, .slice a2 l2 d2, .slice a2' l2' d2'])))))
          clear hB9 hB10 hz hT hbel hb2 hr1 i0 i1 i2 hr2 j0 j1 j2
          go_wp2_with fail
          refine (HA.out.2.2.1 _ _ _ _ _ (HR.out.2.2.1.below HR.out.2.2.2.2) (HR.out.2.2.2.1.below HR.out.2.2.2.2)).mono ?_
          rintro e w5 ⟨v, rfl, hv, hb5⟩
          have hbb := below_next' HR.out.2.2.2.2 hb5
          have hT5 := HR.out.1.below hbb
          have hval : op (f q) (g q) = H q := by rw [← HA.out.2.2.2.1]; show _ = op (ext n1 f q) (ext n2 g q); rw [(ext_lt f (by omega : q < n1)), (ext_lt g (by omega : q < n2))]
          rw [hval] at hv
          have hC := hv
          obtain ⟨m1, m2, m3, m4, m5, m6, rfl, _⟩ := hv
          have hT6 := hT5.store hlt hC
          obtain ⟨xs, l1x, l2x, l3x, _⟩ := hT5
          have hxl : q * 3 + 2 < xs.length := by omega
          have t0 : w5.cell? ⟨w.heap.size, q * 3, none⟩ = some xs[q * 3] := by rw [l1x.cell _ (by omega)]; exact List.getElem?_eq_getElem _
          have t1 : w5.cell? ⟨w.heap.size, q * 3 + 1, none⟩ = some xs[q * 3 + 1] := by rw [l1x.cell _ (by omega)]; exact List.getElem?_eq_getElem _
          have t2 : w5.cell? ⟨w.heap.size, q * 3 + 2, none⟩ = some xs[q * 3 + 2] := by rw [l1x.cell _ (by omega)]; exact List.getElem?_eq_getElem _
          have f0 := l1x.frozen (q * 3)
          have f1 := l1x.frozen (q * 3 + 1)
          have f2 := l1x.frozen (q * 3 + 2)
          generalize xs[q * 3] = xa at t0
          generalize xs[q * 3 + 1] = xb at t1
          generalize xs[q * 3 + 2] = xc at t2
          obtain ⟨s, hs⟩ : ∃ s, decide ((H q).num < 0) = s := ⟨_, rfl⟩
          rw [hs] at hT6 ⊢
          have hbel6 := (((below_next' HR.out.2.1 hbb).setCell (p := ⟨w.heap.size, q * 3, none⟩) (Nat.le_refl _) (.bool s)).setCell (p := ⟨w.heap.size, q * 3 + 1, none⟩) (Nat.le_refl _) (.slice m1 m2 m3)).setCell (p := ⟨w.heap.size, q * 3 + 2, none⟩) (Nat.le_refl _) (.slice m4 m5 m6)
          have HN := Lib.hid (And.intro hT6 hbel6)
          clear hC hT6 l1x l2x l3x hxl hbel6 hs hbb hb5 hval p0 p1 p2 p3 p4 p5 q0 q1 q2 q3 q4 q5 i0' i1' i2' j0' j1' j2'
          go_wp2
          go_roundw
          case rel => exact ⟨q + 1, by omega, by go_num, HN.out⟩
          case measure => simp [intOf]; omega
        · have hq1 : (q : Int) < (n1 : Int) := by omega
          obtain ⟨b1, o1, _, _, _, hb1e, i0, i1, i2, hr1⟩ := (HA.out.1.below hbel).elem (i := q) (by omega)
          subst hb1e
          obtain ⟨s1, a1, l1, d1, a1', l1', d1', rfl, rfl, rfl⟩ := hr1.shape
          have hq2 : ¬ (q : Int) < (n2 : Int) := by omega
          have hb2 := fun cs ds : Array Value => (((Below.refl wr.heap.size wr).alloc (Nat.le_refl _) (.cells cs 24)).alloc (by simp) (.cells ds 24) : Below wr.heap.size wr ((wr.alloc (.cells cs 24)).alloc (.cells ds 24)))
          have i0' := cell_below (hb2 #[.bool false, .slice none 0 0, .slice none 0 0] #[.bool false, .slice none 0 0, .slice none 0 0]) i0
          have i1' : World.cell? _ ⟨b1, o1 + q * 3 + 1, none⟩ = some _ := cell_below (hb2 #[.bool false, .slice none 0 0, .slice none 0 0] #[.bool false, .slice none 0 0, .slice none 0 0]) i1
          have i2' : World.cell? _ ⟨b1, o1 + q * 3 + 2, none⟩ = some _ := cell_below (hb2 #[.bool false, .slice none 0 0, .slice none 0 0] #[.bool false, .slice none 0 0, .slice none 0 0]) i2
          have hz : ∀ o, (wr.alloc o).heap.size = wr.heap.size + 1 := fun o => Array.size_push _
          have hB9 := fun x y z u v t => (BoxV.new wr w.heap.size 24 hbel.size [x, y, z]).below (below_alloc1 _ (.cells #[u, v, t] 24))
          have hB10 := fun o x y z => BoxV.new (wr.alloc o) w.heap.size 24 (by rw [hz]; exact Nat.le_succ_of_le hbel.size) [x, y, z]
          simp only [hz] at hB10
          obtain ⟨⟨p0, p1, p2⟩, p3, p4, p5⟩ := (hB9 (.bool false) (.slice none 0 0) (.slice none 0 0) (.bool false) (.slice none 0 0) (.slice none 0 0)).three
          obtain ⟨⟨q0, q1, q2⟩, q3, q4, q5⟩ := (hB10 (.cells #[.bool s1, .slice a1 l1 d1, .slice a1' l1' d1'] 24) (.bool false) (.slice none 0 0) (.slice none 0 0)).three
          have HR := Lib.hid (And.intro hT (And.intro hbel (And.intro hr1 (And.intro (ratA_zero wr k2) (hb2 #[.bool s1, .slice a1 l1 d1, .slice a1' l1' d1'] #[.bool false, .slice none 0 0, .slice none 0 0])))))
          clear hB9 hB10 hz hT hbel hb2 hr1 i0 i1 i2
          go_wp2_with fail
          refine (HA.out.2.2.1 _ _ _ _ _ (HR.out.2.2.1.below HR.out.2.2.2.2) (HR.out.2.2.2.1.below HR.out.2.2.2.2)).mono ?_
          rintro e w5 ⟨v, rfl, hv, hb5⟩
          have hbb := below_next' HR.out.2.2.2.2 hb5
          have hT5 := HR.out.1.below hbb
          have hval : op (f q) 0 = H q := by rw [← HA.out.2.2.2.1]; show _ = op (ext n1 f q) (ext n2 g q); rw [(ext_lt f (by omega : q < n1)), (ext_ge g (by omega : n2 ≤ q))]
          rw [hval] at hv
          have hC := hv
          obtain ⟨m1, m2, m3, m4, m5, m6, rfl, _⟩ := hv
          have hT6 := hT5.store hlt hC
          obtain ⟨xs, l1x, l2x, l3x, _⟩ := hT5
          have hxl : q * 3 + 2 < xs.length := by omega
          have t0 : w5.cell? ⟨w.heap.size, q * 3, none⟩ = some xs[q * 3] := by rw [l1x.cell _ (by omega)]; exact List.getElem?_eq_getElem _
          have t1 : w5.cell? ⟨w.heap.size, q * 3 + 1, none⟩ = some xs[q * 3 + 1] := by rw [l1x.cell _ (by omega)]; exact List.getElem?_eq_getElem _
          have t2 : w5.cell? ⟨w.heap.size, q * 3 + 2, none⟩ = some xs[q * 3 + 2] := by rw [l1x.cell _ (by omega)]; exact List.getElem?_eq_getElem _
          have f0 := l1x.frozen (q * 3)
          have f1 := l1x.frozen (q * 3 + 1)
          have f2 := l1x.frozen (q * 3 + 2)
          generalize xs[q * 3] = xa at t0
          generalize xs[q * 3 + 1] = xb at t1
          generalize xs[q * 3 + 2] = xc at t2
          obtain ⟨s, hs⟩ : ∃ s, decide ((H q).num < 0) = s := ⟨_, rfl⟩
          rw [hs] at hT6 ⊢
          have hbel6 := (((below_next' HR.out.2.1 hbb).setCell (p := ⟨w.heap.size, q * 3, none⟩) (Nat.le_refl _) (.bool s)).setCell (p := ⟨w.heap.size, q * 3 + 1, none⟩) (Nat.le_refl _) (.slice m1 m2 m3)).setCell (p := ⟨w.heap.size, q * 3 + 2, none⟩) (Nat.le_refl _) (.slice m4 m5 m6)
          have HN := Lib.hid (And.intro hT6 hbel6)
          clear hC hT6 l1x l2x l3x hxl hbel6 hs hbb hb5 hval p0 p1 p2 p3 p4 p5 q0 q1 q2 q3 q4 q5 i0' i1' i2'
          go_wp2
          go_roundw
          case rel => exact ⟨q + 1, by omega, by go_num, HN.out⟩
          case measure => simp [intOf]; omega
      · obtain rfl : q = n1 := by omega
        have HF := Lib.hid (And.intro hT hbel)
        clear hT hbel hlt
        go_wp2
        go_ret
        exact ⟨_, rfl, HF.out.1, HF.out.2⟩
end Go.Proofs.Ytdpiclmjdcjajaa

/-
  The walk of Add. Conditions: numbers of at most 500 limbs.
-/
namespace Go.Proofs.Ytdpiclmjdcjajaa
open Go.RowKit Num

theorem Lst.cut {w : World} {a : Option Addr} {n cap m : Nat} {f : Nat → Rat} (h : Lst w (.slice a n cap) n f) (hm : m ≤ n) : Lst w (.slice a m cap) m f := by
  obtain ⟨a', cap', e, h1, h2, h3⟩ := h
  obtain ⟨rfl, rfl⟩ : a = a' ∧ cap = cap' := by simpa using e
  exact ⟨_, _, rfl, by omega, h2, fun i hi => h3 i (by omega)⟩

/-- The sum of two lists. -/
def addQ (n1 n2 : Nat) (f g : Nat → Rat) : Nat → Rat := fun i => ext n1 f i + ext n2 g i
theorem sz_ext {n k : Nat} {f : Nat → Rat} (h : ∀ i, i < n → Sz (f i) k) (hk : 1 ≤ k) (i : Nat) : Sz (ext n f i) k := by
  unfold ext
  split
  · exact h i (by assumption)
  · exact sz_le (sz_of_small (by decide) (by decide) : Sz (0 : Rat) 1) hk
theorem sz_addQ {n1 n2 k1 k2 : Nat} {f g : Nat → Rat} (h1 : ∀ i, i < n1 → Sz (f i) k1) (h2 : ∀ i, i < n2 → Sz (g i) k2) (e1 : 1 ≤ k1) (e2 : 1 ≤ k2) (i : Nat) : Sz (addQ n1 n2 f g i) (k1 + k2 + 1) := sz_add (sz_ext h1 e1 i) (sz_ext h2 e2 i)

set_option maxRecDepth 100000 in
set_option maxHeartbeats 4000000 in
theorem add_in (a1 a2 : Option Addr) (n1 n2 c1 c2 k1 k2 N : Nat) (f g : Nat → Rat) (w : World) (hu : LstA w (.slice a1 n1 c1) n1 k1 f) (hv : LstA w (.slice a2 n2 c2) n2 k2 g) (hn1 : n1 ≤ 33) (hn2 : n2 ≤ 33)
    (hN : (n1 < n2 ∧ n2 = N) ∨ (¬ n1 < n2 ∧ n1 = N)) (hk : k1 + k2 ≤ 20000) (hf : ∀ i, i < n1 → Sz (f i) (k1 + 1)) (hg : ∀ i, i < n2 → Sz (g i) (k2 + 1)) :
    Calls Try.prog 32 #[.slice a1 n1 c1, .slice a2 n2 c2] w (ListB (trimN (addQ n1 n2 f g) N) (addQ n1 n2 f g) true w) := by
  have hs := fun i => sz_addQ hf hg (by omega) (by omega) i
  have hc := combineL_any 70 (fun a b => a + b) a1 a2 n1 n2 c1 c2 k1 k2 N f g w hu hv (by omega) (by omega) hN callFunc70 (fun w x y p q hx hy => add_a (k := k1 + k2) (hx.le (by omega)) (hy.le (by omega)) hk)
  have hc : Calls Try.prog 69 #[.slice a1 n1 c1, .slice a2 n2 c2, .func (.func 70) #[] #[]] w (ListP N (addQ n1 n2 f g) w) := hc
  have hN33 : N ≤ 33 := by omega
  obtain ⟨H, hH⟩ : ∃ H, addQ n1 n2 f g = H := ⟨_, rfl⟩
  rw [hH] at hc ⊢
  simp only [hH] at hs
  have ht := trimN_le H N
  obtain ⟨T, hT⟩ : ∃ T, trimN H N = T := ⟨_, rfl⟩
  rw [hT] at ht ⊢
  have HA := Lib.hid (And.intro hc (And.intro hs (And.intro ht hT)))
  clear hc hs ht hT hu hv hf hg hH hN
  go_enter Try.func32, Try.ntmps32
  go_wp2_with fail
  refine HA.out.1.mono ?_
  rintro e w1 ⟨g1, rfl, hL, hb1⟩
  have hl := hL.lst (cap := N) (Nat.le_refl _) (by omega)
  have H1 := Lib.hid (And.intro hl (And.intro (hl.toA fun i _ => HA.out.2.1 i) hb1))
  clear hl hL hb1
  go_wp2_with fail
  refine (trimL_any _ N N _ H _ H1.out.2.1).mono ?_
  rintro e w2 ⟨rfl, hb2⟩
  rw [HA.out.2.2.2]
  have HF := Lib.hid (And.intro ((H1.out.1.below hb2).cut HA.out.2.2.1) (below_next' H1.out.2.2 hb2))
  clear hb2
  go_wp2
  go_ret2
  exact ⟨_, rfl, HF.out.1, HF.out.2⟩

set_option maxRecDepth 100000 in
theorem add_out (a1 a2 : Option Addr) (n1 n2 c1 c2 : Nat) (F : Nat → Rat) (w : World) (m1 : n1 ≤ 9223372036854775807) (m2 : n2 ≤ 9223372036854775807) (h : 33 < n1 ∨ 33 < n2) : Calls Try.prog 32 #[.slice a1 n1 c1, .slice a2 n2 c2] w (ListB 0 F false w) := by
  by_cases h1 : 33 < n1
  · clear h
    go_enter Try.func32, Try.ntmps32
    go_wp2
    go_ret2
    exact ⟨_, rfl, Lst.nil _ _, Below.refl _ _⟩
  · have h2 : 33 < n2 := by omega
    clear h
    go_enter Try.func32, Try.ntmps32
    go_wp2
    go_ret2
    exact ⟨_, rfl, Lst.nil _ _, Below.refl _ _⟩

set_option maxRecDepth 100000 in
theorem refAdd_out (a1 a2 : Option Addr) (n1 n2 c1 c2 : Nat) (F : Nat → Rat) (w : World) (m1 : n1 ≤ 9223372036854775807) (m2 : n2 ≤ 9223372036854775807) (h : 33 < n1 ∨ 33 < n2) : Calls Try.prog 33 #[.slice a1 n1 c1, .slice a2 n2 c2] w (ListB 0 F false w) := by
  by_cases h1 : 33 < n1
  · clear h
    go_enter Try.func33, Try.ntmps33
    go_wp2
    go_ret2
    exact ⟨_, rfl, Lst.nil _ _, Below.refl _ _⟩
  · have h2 : 33 < n2 := by omega
    clear h
    go_enter Try.func33, Try.ntmps33
    go_wp2
    go_ret2
    exact ⟨_, rfl, Lst.nil _ _, Below.refl _ _⟩
end Go.Proofs.Ytdpiclmjdcjajaa

/-
  The walk of the reference's Add of lists. Conditions: at most 33 numbers of at most 8 limbs.
-/
namespace Go.Proofs.Ytdpiclmjdcjajaa
open Go.RowKit Num

def raP (a : Option Addr) (n cap i : Nat) (s p : Rat) : Tmp → Ke := fun t => ([.sl a n cap i p, .any, .any, .any, .any, .any, .any, .con (.int .i64 i), .box 20 s, .any, .any, .any, .any, .any, .any, .any, .any, .any, .any, .any, .any, .any, .any, .any, .any, .any, .any, .any, .any, .any, .any, .any, .any, .any, .ra 20 s, .sl a n cap i p, .con (.int .i64 i), .el p, .ra 8 p, .ratC (s + p), .any, .any, .any, .any, .any, .any, .any, .any, .any, .any, .any, .any, .any, .any, .any, .any] : List Ke).getD t .any
def raQ (a : Option Addr) (n cap i : Nat) (s p : Rat) : Tmp → Ke := fun t => ([.any, .sl a n cap i p, .any, .any, .any, .any, .any, .con (.int .i64 i), .box 20 s, .any, .any, .any, .any, .any, .any, .any, .any, .any, .any, .any, .any, .any, .any, .any, .any, .any, .any, .any, .any, .any, .any, .any, .any, .any, .any, .any, .any, .any, .any, .any, .any, .any, .any, .any, .ra 20 s, .sl a n cap i p, .con (.int .i64 i), .el p, .ra 8 p, .ratC (s + p), .any, .any, .any, .any, .any, .any] : List Ke).getD t .any

set_option maxRecDepth 100000 in
set_option maxHeartbeats 16000000 in
theorem refAddL_in (a1 a2 : Option Addr) (n1 n2 c1 c2 N : Nat) (f g : Nat → Rat) (w : World) (hu : LstA w (.slice a1 n1 c1) n1 8 f) (hv : LstA w (.slice a2 n2 c2) n2 8 g) (hn1 : n1 ≤ 33) (hn2 : n2 ≤ 33)
    (hN : (n1 < n2 ∧ n2 = N) ∨ (¬ n1 < n2 ∧ n1 = N)) (hf : ∀ i, i < n1 → Sz (f i) 9) (hg : ∀ i, i < n2 → Sz (g i) 9) :
    Calls Try.prog 33 #[.slice a1 n1 c1, .slice a2 n2 c2] w (ListB (trimN (addQ n1 n2 f g) N) (addQ n1 n2 f g) true w) := by
  have hs : ∀ i, Sz (addQ n1 n2 f g i) 19 := fun i => sz_addQ hf hg (by omega) (by omega) i
  have hN33 : N ≤ 33 := by omega
  have hNN : ∀ q, (q < n1 ∨ q < n2) ↔ q < N := fun q => by omega
  obtain ⟨H, hH⟩ : ∃ H, addQ n1 n2 f g = H := ⟨_, rfl⟩
  rw [hH] at hs ⊢
  obtain ⟨T, hT⟩ : ∃ T, trimN H N = T := ⟨_, rfl⟩
  rw [hT]
  have HA := Lib.hid (And.intro hu (And.intro hv (And.intro hH (And.intro hs (And.intro hT (And.intro hf hg))))))
  have HN2 := Lib.hid hNN
  clear hu hv hH hs hT hf hg hN hNN
  go_enter Try.func33, Try.ntmps33
  go_wp2_with fail
  go_loopw [6, 7] (fun v x wr => ∃ q : Nat, q ≤ N ∧ x = .int .i64 q ∧ OutR w.heap.size q H v wr ∧ Below w.heap.size w wr) (fun _ x _ => N - (intOf x).toNat)
  case atStart => exact ⟨0, Nat.zero_le _, rfl, OutR.nil _ _ _, Below.refl _ _⟩
  case round =>
    obtain ⟨q, hq, rfl, hO, hbel⟩ := hrel
    by_cases hlt : q < N
    · have hcc := (HN2.out q).2 hlt
      by_cases hc1 : q < n1
      · by_cases hc2 : q < n2
        · have hval2 : f q + g q = H q := by rw [← HA.out.2.2.1]; unfold addQ; rw [(ext_lt f hc1), (ext_lt g hc2)]
          have hq1 : (q : Int) < (n1 : Int) := by omega
          have hq2 : (q : Int) < (n2 : Int) := by omega
          have HR := Lib.hid (And.intro hO hbel)
          clear hO hbel
          go_wp2_with fail
          refine (refFromInt_any 0 _ (by omega) (by omega)).mono ?_
          rintro e w1 ⟨v8, rfl, hv8, hb1⟩
          rw [quo_zero] at hv8
          have hv8' := hv8
          obtain ⟨z1, z2, z3, z4, z5, z6, rfl, _⟩ := hv8
          have hne : u6.ownBlock ≠ some w1.heap.size := fun e => by have h1 := (HR.out.1.own _ e).2; have h2 := hb1.size; omega
          obtain ⟨s0, hs0⟩ : ∃ s, decide ((0 : Rat).num < 0) = s := ⟨_, rfl⟩
          rw [hs0] at hv8' ⊢
          have hb2 := below_alloc1 w1 (.cells #[.bool s0, .slice z1 z2 z3, .slice z4 z5 z6] 24)
          have hbb := below_next' hb1 hb2
          have hB8 := BoxV.new w1 w.heap.size 24 (below_next' HR.out.2 hb1).size [.bool s0, .slice z1 z2 z3, .slice z4 z5 z6]
          have HM := Lib.hid (And.intro (HR.out.1.below hbb) (And.intro hB8 (And.intro (hv8'.below hb2) (below_next' HR.out.2 hbb))))
          clear hb1 hb2 hbb hB8 hv8' hs0
          have HX1 := Lib.hid (And.intro HM.out.1 (And.intro HM.out.2.1 (And.intro (boxC_of (k := 20) HM.out.2.1 HM.out.2.2.1 (sz_le sz_zero3 (by decide))) (And.intro HM.out.2.2.2 ((HA.out.1.below HM.out.2.2.2).elemV hc1)))))
          go_wp2_with fail
          refine region_flow_tail (Fe (raP a1 n1 c1 q 0 (f q))) (by rfl) (Fe.mono _) 56 6 [] (by rfl) (by kernel_rfl) (by kernel_rfl) (by kernel_rfl) (by kernel_rfl) (fun t ht => by cases ht) [0, 7, 8] (by kernel_rfl) ?_ (Fe.draw _) ?_ ?_
          · intro t ht
            simp only [List.mem_cons, List.not_mem_nil, or_false] at ht
            rcases ht with rfl | rfl | rfl
            · exact ⟨rfl, HX1.out.2.2.2.2⟩
            · rfl
            · exact HX1.out.2.2.1
          · exact ⟨flowN_of (e_loadC rfl rfl) (by decide), flowN_of (e_move rfl) (by decide), flowN_of (e_move rfl) (by decide), flowN_of (e_index rfl rfl rfl hc1) (by decide), flowN_of (e_loadE rfl rfl) (by decide), flowN_of (e_add36 rfl rfl rfl (by omega)) (by decide), trivial⟩
          intro a3 w3A hb3 hsz3 hdf3 hfacts hout _
          have f39 : RatC w3A (a3.tmps.getD 39 undef) (0 + f q) := hfacts 5 39 (by decide) rfl
          rw [Rat.zero_add] at f39
          have e0 : a3.tmps.getD 0 undef = .slice a1 n1 c1 := hout 0 (free_of (by kernel_rfl))
          have e1 : a3.tmps.getD 1 undef = .slice a2 n2 c2 := hout 1 (free_of (by kernel_rfl))
          have e2 : a3.tmps.getD 2 undef = undef := hout 2 (free_of (by kernel_rfl))
          have e3 : a3.tmps.getD 3 undef = undef := hout 3 (free_of (by kernel_rfl))
          have e4 : a3.tmps.getD 4 undef = .slice none 0 0 := hout 4 (free_of (by kernel_rfl))
          have e5 : a3.tmps.getD 5 undef = .bool false := hout 5 (free_of (by kernel_rfl))
          have e6 : a3.tmps.getD 6 undef = u6 := hout 6 (free_of (by kernel_rfl))
          have e7 : a3.tmps.getD 7 undef = .int .i64 q := hout 7 (free_of (by kernel_rfl))
          have e8 : a3.tmps.getD 8 undef = .pointer (some ⟨w1.heap.size, 0, none⟩) := hout 8 (free_of (by kernel_rfl))
          have e9 : a3.tmps.getD 9 undef = .slice a1 n1 c1 := hout 9 (free_of (by kernel_rfl))
          have e10 : a3.tmps.getD 10 undef = .int .i64 n1 := hout 10 (free_of (by kernel_rfl))
          have e11 : a3.tmps.getD 11 undef = .bool (decide (33 < (n1 : Int))) := hout 11 (free_of (by kernel_rfl))
          have e12 : a3.tmps.getD 12 undef = .bool (decide (33 < (n1 : Int))) := hout 12 (free_of (by kernel_rfl))
          have e13 : a3.tmps.getD 13 undef = .slice a2 n2 c2 := hout 13 (free_of (by kernel_rfl))
          have e14 : a3.tmps.getD 14 undef = .int .i64 n2 := hout 14 (free_of (by kernel_rfl))
          have e15 : a3.tmps.getD 15 undef = .bool (decide (33 < (n2 : Int))) := hout 15 (free_of (by kernel_rfl))
          have e16 : a3.tmps.getD 16 undef = .bool (decide (33 < (n1 : Int)) || decide (33 < (n2 : Int))) := hout 16 (free_of (by kernel_rfl))
          have e54 : a3.tmps.getD 54 undef = undef := hout 54 (free_of (by kernel_rfl))
          have e55 : a3.tmps.getD 55 undef = undef := hout 55 (free_of (by kernel_rfl))
          have hszn : a3.tmps.size = 56 := hsz3
          have hdfn : a3.defers = [] := hdf3
          have hB3 := HX1.out.2.1.below hb3
          change runFrom _ _ _ 1 6 a3 _
          simp only [runFrom]
          refine e_store (t := 8) (u := 39) rfl e8 hB3 f39 fun an' ln' cn' ad' ld' cd' hR => ?_
          obtain ⟨tA, htA⟩ : ∃ s', decide ((f q).num < 0) = s' := ⟨_, rfl⟩
          rw [htA] at hR ⊢
          have HMA := Lib.hid (And.intro ((HX1.out.1.below hb3).set hB3 (noLimb_rat _ _ _ _ _ _ _) hne (.bool tA) (.slice an' ln' cn') (.slice ad' ld' cd')) (And.intro (hB3.store3 (.bool tA) (.slice an' ln' cn') (.slice ad' ld' cd')) (And.intro (hR.other hB3 (noLimb_rat _ _ _ _ _ _ _) (grown_set3 w3A w1.heap.size (.bool tA) (.slice an' ln' cn') (.slice ad' ld' cd'))) (below_set3 (below_next' HX1.out.2.2.2.1 hb3) hB3.block.1 (.bool tA) (.slice an' ln' cn') (.slice ad' ld' cd')))))
          generalize (((w3A.setCell ⟨w1.heap.size, 0, none⟩ (.bool tA)).setCell ⟨w1.heap.size, 1, none⟩ (.slice an' ln' cn')).setCell ⟨w1.heap.size, 2, none⟩ (.slice ad' ld' cd')) = w4A at HMA ⊢
          obtain ⟨uuA, huA⟩ : ∃ u : Nat → Value, ∀ t, a3.tmps.getD t undef = u t := ⟨_, fun _ => rfl⟩
          have ha := act_eq a3 56 hszn hdfn
          simp only [huA] at ha e0 e1 e2 e3 e4 e5 e6 e7 e8 e9 e10 e11 e12 e13 e14 e15 e16 e54 e55
          have ha' : a3 = ⟨#[uuA 0, uuA 1, uuA 2, uuA 3, uuA 4, uuA 5, uuA 6, uuA 7, uuA 8, uuA 9, uuA 10, uuA 11, uuA 12, uuA 13, uuA 14, uuA 15, uuA 16, uuA 17, uuA 18, uuA 19, uuA 20, uuA 21, uuA 22, uuA 23, uuA 24, uuA 25, uuA 26, uuA 27, uuA 28, uuA 29, uuA 30, uuA 31, uuA 32, uuA 33, uuA 34, uuA 35, uuA 36, uuA 37, uuA 38, uuA 39, uuA 40, uuA 41, uuA 42, uuA 43, uuA 44, uuA 45, uuA 46, uuA 47, uuA 48, uuA 49, uuA 50, uuA 51, uuA 52, uuA 53, uuA 54, uuA 55], []⟩ := ha
          rw [e0, e1, e2, e3, e4, e5, e6, e7, e8, e9, e10, e11, e12, e13, e14, e15, e16, e54, e55] at ha'
          clear ha huA e0 e1 e2 e3 e4 e5 e6 e7 e8 e9 e10 e11 e12 e13 e14 e15 e16 e54 e55 hfacts hout hszn hdfn hsz3 hdf3 f39 hB3 hR hb3
          subst ha'
          have HX2 := Lib.hid (And.intro HMA.out.1 (And.intro HMA.out.2.1 (And.intro (boxC_of (k := 20) HMA.out.2.1 HMA.out.2.2.1 (sz_le (HA.out.2.2.2.2.2.1 q hc1) (by decide))) (And.intro HMA.out.2.2.2 ((HA.out.2.1.below HMA.out.2.2.2).elemV hc2)))))
          go_wp2_with fail
          refine region_flow_tail (Fe (raQ a2 n2 c2 q (f q) (g q))) (by rfl) (Fe.mono _) 56 6 [] (by rfl) (by kernel_rfl) (by kernel_rfl) (by kernel_rfl) (by kernel_rfl) (fun t ht => by cases ht) [1, 7, 8] (by kernel_rfl) ?_ (Fe.draw _) ?_ ?_
          · intro t ht
            simp only [List.mem_cons, List.not_mem_nil, or_false] at ht
            rcases ht with rfl | rfl | rfl
            · exact ⟨rfl, HX2.out.2.2.2.2⟩
            · rfl
            · exact HX2.out.2.2.1
          · exact ⟨flowN_of (e_loadC rfl rfl) (by decide), flowN_of (e_move rfl) (by decide), flowN_of (e_move rfl) (by decide), flowN_of (e_index rfl rfl rfl hc2) (by decide), flowN_of (e_loadE rfl rfl) (by decide), flowN_of (e_add36 rfl rfl rfl (by omega)) (by decide), trivial⟩
          intro a3 w3B hb3 hsz3 hdf3 hfacts hout _
          have f39 : RatC w3B (a3.tmps.getD 49 undef) ((f q) + g q) := hfacts 5 49 (by decide) rfl
          rw [hval2] at f39
          have e0 : a3.tmps.getD 0 undef = .slice a1 n1 c1 := hout 0 (free_of (by kernel_rfl))
          have e1 : a3.tmps.getD 1 undef = .slice a2 n2 c2 := hout 1 (free_of (by kernel_rfl))
          have e2 : a3.tmps.getD 2 undef = undef := hout 2 (free_of (by kernel_rfl))
          have e3 : a3.tmps.getD 3 undef = undef := hout 3 (free_of (by kernel_rfl))
          have e4 : a3.tmps.getD 4 undef = .slice none 0 0 := hout 4 (free_of (by kernel_rfl))
          have e5 : a3.tmps.getD 5 undef = .bool false := hout 5 (free_of (by kernel_rfl))
          have e6 : a3.tmps.getD 6 undef = u6 := hout 6 (free_of (by kernel_rfl))
          have e7 : a3.tmps.getD 7 undef = .int .i64 q := hout 7 (free_of (by kernel_rfl))
          have e8 : a3.tmps.getD 8 undef = .pointer (some ⟨w1.heap.size, 0, none⟩) := hout 8 (free_of (by kernel_rfl))
          have e9 : a3.tmps.getD 9 undef = .slice a1 n1 c1 := hout 9 (free_of (by kernel_rfl))
          have e10 : a3.tmps.getD 10 undef = .int .i64 n1 := hout 10 (free_of (by kernel_rfl))
          have e11 : a3.tmps.getD 11 undef = .bool (decide (33 < (n1 : Int))) := hout 11 (free_of (by kernel_rfl))
          have e12 : a3.tmps.getD 12 undef = .bool (decide (33 < (n1 : Int))) := hout 12 (free_of (by kernel_rfl))
          have e13 : a3.tmps.getD 13 undef = .slice a2 n2 c2 := hout 13 (free_of (by kernel_rfl))
          have e14 : a3.tmps.getD 14 undef = .int .i64 n2 := hout 14 (free_of (by kernel_rfl))
          have e15 : a3.tmps.getD 15 undef = .bool (decide (33 < (n2 : Int))) := hout 15 (free_of (by kernel_rfl))
          have e16 : a3.tmps.getD 16 undef = .bool (decide (33 < (n1 : Int)) || decide (33 < (n2 : Int))) := hout 16 (free_of (by kernel_rfl))
          have e54 : a3.tmps.getD 54 undef = undef := hout 54 (free_of (by kernel_rfl))
          have e55 : a3.tmps.getD 55 undef = undef := hout 55 (free_of (by kernel_rfl))
          have hszn : a3.tmps.size = 56 := hsz3
          have hdfn : a3.defers = [] := hdf3
          have hB3 := HX2.out.2.1.below hb3
          change runFrom _ _ _ 1 6 a3 _
          simp only [runFrom]
          refine e_store (t := 8) (u := 49) rfl e8 hB3 f39 fun an' ln' cn' ad' ld' cd' hR => ?_
          obtain ⟨tB, htB⟩ : ∃ s', decide ((H q).num < 0) = s' := ⟨_, rfl⟩
          rw [htB] at hR ⊢
          have HMB := Lib.hid (And.intro ((HX2.out.1.below hb3).set hB3 (noLimb_rat _ _ _ _ _ _ _) hne (.bool tB) (.slice an' ln' cn') (.slice ad' ld' cd')) (And.intro (hB3.store3 (.bool tB) (.slice an' ln' cn') (.slice ad' ld' cd')) (And.intro (hR.other hB3 (noLimb_rat _ _ _ _ _ _ _) (grown_set3 w3B w1.heap.size (.bool tB) (.slice an' ln' cn') (.slice ad' ld' cd'))) (below_set3 (below_next' HX2.out.2.2.2.1 hb3) hB3.block.1 (.bool tB) (.slice an' ln' cn') (.slice ad' ld' cd')))))
          generalize (((w3B.setCell ⟨w1.heap.size, 0, none⟩ (.bool tB)).setCell ⟨w1.heap.size, 1, none⟩ (.slice an' ln' cn')).setCell ⟨w1.heap.size, 2, none⟩ (.slice ad' ld' cd')) = w4B at HMB ⊢
          obtain ⟨uuB, huB⟩ : ∃ u : Nat → Value, ∀ t, a3.tmps.getD t undef = u t := ⟨_, fun _ => rfl⟩
          have ha := act_eq a3 56 hszn hdfn
          simp only [huB] at ha e0 e1 e2 e3 e4 e5 e6 e7 e8 e9 e10 e11 e12 e13 e14 e15 e16 e54 e55
          have ha' : a3 = ⟨#[uuB 0, uuB 1, uuB 2, uuB 3, uuB 4, uuB 5, uuB 6, uuB 7, uuB 8, uuB 9, uuB 10, uuB 11, uuB 12, uuB 13, uuB 14, uuB 15, uuB 16, uuB 17, uuB 18, uuB 19, uuB 20, uuB 21, uuB 22, uuB 23, uuB 24, uuB 25, uuB 26, uuB 27, uuB 28, uuB 29, uuB 30, uuB 31, uuB 32, uuB 33, uuB 34, uuB 35, uuB 36, uuB 37, uuB 38, uuB 39, uuB 40, uuB 41, uuB 42, uuB 43, uuB 44, uuB 45, uuB 46, uuB 47, uuB 48, uuB 49, uuB 50, uuB 51, uuB 52, uuB 53, uuB 54, uuB 55], []⟩ := ha
          rw [e0, e1, e2, e3, e4, e5, e6, e7, e8, e9, e10, e11, e12, e13, e14, e15, e16, e54, e55] at ha'
          clear ha huB e0 e1 e2 e3 e4 e5 e6 e7 e8 e9 e10 e11 e12 e13 e14 e15 e16 e54 e55 hfacts hout hszn hdfn hsz3 hdf3 f39 hB3 hR hb3
          subst ha'
          obtain ⟨⟨y0, y1, y2⟩, _⟩ := HMB.out.2.1.three
          have hb12 := fun cs => below_alloc1 w4B (.cells cs 24)
          have H12 := Lib.hid (And.intro HMB.out.1 (And.intro HMB.out.2.2.1 (And.intro HMB.out.2.2.2 hb12)))
          clear hb12
          go_wp2_with (at_builtin; refine wpList_append_rat rfl _ _ rfl w.heap.size q H _ rfl (H12.out.1.below (H12.out.2.2.2 _)) ⟨w4B.heap.size, 0, none⟩ 1 _ _ _ rfl (three_new _ _ _ _ _ _ rfl) (H12.out.2.1.below (H12.out.2.2.2 _)) (by omega) (below_next H12.out.2.2.1 (H12.out.2.2.2 _)).size ?_; intro v' w13 hO3 hgr3)
          go_roundw
          case rel => exact ⟨q + 1, by omega, by go_num, hO3, (below_next' H12.out.2.2.1 (H12.out.2.2.2 _)).grown hgr3 (below_next' H12.out.2.2.1 (H12.out.2.2.2 _)).size (fun k hk => (H12.out.1.own k hk).1)⟩
          case measure => simp [intOf]; omega
        · have hval2 : f q = H q := by rw [← HA.out.2.2.1]; unfold addQ; rw [(ext_lt f hc1), (ext_ge g (by omega : n2 ≤ q))]; exact (Rat.add_zero _).symm
          have hq1 : (q : Int) < (n1 : Int) := by omega
          have hq2 : ¬ (q : Int) < (n2 : Int) := by omega
          have HR := Lib.hid (And.intro hO hbel)
          clear hO hbel
          go_wp2_with fail
          refine (refFromInt_any 0 _ (by omega) (by omega)).mono ?_
          rintro e w1 ⟨v8, rfl, hv8, hb1⟩
          rw [quo_zero] at hv8
          have hv8' := hv8
          obtain ⟨z1, z2, z3, z4, z5, z6, rfl, _⟩ := hv8
          have hne : u6.ownBlock ≠ some w1.heap.size := fun e => by have h1 := (HR.out.1.own _ e).2; have h2 := hb1.size; omega
          obtain ⟨s0, hs0⟩ : ∃ s, decide ((0 : Rat).num < 0) = s := ⟨_, rfl⟩
          rw [hs0] at hv8' ⊢
          have hb2 := below_alloc1 w1 (.cells #[.bool s0, .slice z1 z2 z3, .slice z4 z5 z6] 24)
          have hbb := below_next' hb1 hb2
          have hB8 := BoxV.new w1 w.heap.size 24 (below_next' HR.out.2 hb1).size [.bool s0, .slice z1 z2 z3, .slice z4 z5 z6]
          have HM := Lib.hid (And.intro (HR.out.1.below hbb) (And.intro hB8 (And.intro (hv8'.below hb2) (below_next' HR.out.2 hbb))))
          clear hb1 hb2 hbb hB8 hv8' hs0
          have HX1 := Lib.hid (And.intro HM.out.1 (And.intro HM.out.2.1 (And.intro (boxC_of (k := 20) HM.out.2.1 HM.out.2.2.1 (sz_le sz_zero3 (by decide))) (And.intro HM.out.2.2.2 ((HA.out.1.below HM.out.2.2.2).elemV hc1)))))
          go_wp2_with fail
          refine region_flow_tail (Fe (raP a1 n1 c1 q 0 (f q))) (by rfl) (Fe.mono _) 56 6 [] (by rfl) (by kernel_rfl) (by kernel_rfl) (by kernel_rfl) (by kernel_rfl) (fun t ht => by cases ht) [0, 7, 8] (by kernel_rfl) ?_ (Fe.draw _) ?_ ?_
          · intro t ht
            simp only [List.mem_cons, List.not_mem_nil, or_false] at ht
            rcases ht with rfl | rfl | rfl
            · exact ⟨rfl, HX1.out.2.2.2.2⟩
            · rfl
            · exact HX1.out.2.2.1
          · exact ⟨flowN_of (e_loadC rfl rfl) (by decide), flowN_of (e_move rfl) (by decide), flowN_of (e_move rfl) (by decide), flowN_of (e_index rfl rfl rfl hc1) (by decide), flowN_of (e_loadE rfl rfl) (by decide), flowN_of (e_add36 rfl rfl rfl (by omega)) (by decide), trivial⟩
          intro a3 w3A hb3 hsz3 hdf3 hfacts hout _
          have f39 : RatC w3A (a3.tmps.getD 39 undef) (0 + f q) := hfacts 5 39 (by decide) rfl
          rw [Rat.zero_add] at f39
          have e0 : a3.tmps.getD 0 undef = .slice a1 n1 c1 := hout 0 (free_of (by kernel_rfl))
          have e1 : a3.tmps.getD 1 undef = .slice a2 n2 c2 := hout 1 (free_of (by kernel_rfl))
          have e2 : a3.tmps.getD 2 undef = undef := hout 2 (free_of (by kernel_rfl))
          have e3 : a3.tmps.getD 3 undef = undef := hout 3 (free_of (by kernel_rfl))
          have e4 : a3.tmps.getD 4 undef = .slice none 0 0 := hout 4 (free_of (by kernel_rfl))
          have e5 : a3.tmps.getD 5 undef = .bool false := hout 5 (free_of (by kernel_rfl))
          have e6 : a3.tmps.getD 6 undef = u6 := hout 6 (free_of (by kernel_rfl))
          have e7 : a3.tmps.getD 7 undef = .int .i64 q := hout 7 (free_of (by kernel_rfl))
          have e8 : a3.tmps.getD 8 undef = .pointer (some ⟨w1.heap.size, 0, none⟩) := hout 8 (free_of (by kernel_rfl))
          have e9 : a3.tmps.getD 9 undef = .slice a1 n1 c1 := hout 9 (free_of (by kernel_rfl))
          have e10 : a3.tmps.getD 10 undef = .int .i64 n1 := hout 10 (free_of (by kernel_rfl))
          have e11 : a3.tmps.getD 11 undef = .bool (decide (33 < (n1 : Int))) := hout 11 (free_of (by kernel_rfl))
          have e12 : a3.tmps.getD 12 undef = .bool (decide (33 < (n1 : Int))) := hout 12 (free_of (by kernel_rfl))
          have e13 : a3.tmps.getD 13 undef = .slice a2 n2 c2 := hout 13 (free_of (by kernel_rfl))
          have e14 : a3.tmps.getD 14 undef = .int .i64 n2 := hout 14 (free_of (by kernel_rfl))
          have e15 : a3.tmps.getD 15 undef = .bool (decide (33 < (n2 : Int))) := hout 15 (free_of (by kernel_rfl))
          have e16 : a3.tmps.getD 16 undef = .bool (decide (33 < (n1 : Int)) || decide (33 < (n2 : Int))) := hout 16 (free_of (by kernel_rfl))
          have e54 : a3.tmps.getD 54 undef = undef := hout 54 (free_of (by kernel_rfl))
          have e55 : a3.tmps.getD 55 undef = undef := hout 55 (free_of (by kernel_rfl))
          have hszn : a3.tmps.size = 56 := hsz3
          have hdfn : a3.defers = [] := hdf3
          have hB3 := HX1.out.2.1.below hb3
          change runFrom _ _ _ 1 6 a3 _
          simp only [runFrom]
          refine e_store (t := 8) (u := 39) rfl e8 hB3 f39 fun an' ln' cn' ad' ld' cd' hR => ?_
          obtain ⟨tA, htA⟩ : ∃ s', decide ((f q).num < 0) = s' := ⟨_, rfl⟩
          rw [htA] at hR ⊢
          have HMA := Lib.hid (And.intro ((HX1.out.1.below hb3).set hB3 (noLimb_rat _ _ _ _ _ _ _) hne (.bool tA) (.slice an' ln' cn') (.slice ad' ld' cd')) (And.intro (hB3.store3 (.bool tA) (.slice an' ln' cn') (.slice ad' ld' cd')) (And.intro (hR.other hB3 (noLimb_rat _ _ _ _ _ _ _) (grown_set3 w3A w1.heap.size (.bool tA) (.slice an' ln' cn') (.slice ad' ld' cd'))) (below_set3 (below_next' HX1.out.2.2.2.1 hb3) hB3.block.1 (.bool tA) (.slice an' ln' cn') (.slice ad' ld' cd')))))
          generalize (((w3A.setCell ⟨w1.heap.size, 0, none⟩ (.bool tA)).setCell ⟨w1.heap.size, 1, none⟩ (.slice an' ln' cn')).setCell ⟨w1.heap.size, 2, none⟩ (.slice ad' ld' cd')) = w4A at HMA ⊢
          obtain ⟨uuA, huA⟩ : ∃ u : Nat → Value, ∀ t, a3.tmps.getD t undef = u t := ⟨_, fun _ => rfl⟩
          have ha := act_eq a3 56 hszn hdfn
          simp only [huA] at ha e0 e1 e2 e3 e4 e5 e6 e7 e8 e9 e10 e11 e12 e13 e14 e15 e16 e54 e55
          have ha' : a3 = ⟨#[uuA 0, uuA 1, uuA 2, uuA 3, uuA 4, uuA 5, uuA 6, uuA 7, uuA 8, uuA 9, uuA 10, uuA 11, uuA 12, uuA 13, uuA 14, uuA 15, uuA 16, uuA 17, uuA 18, uuA 19, uuA 20, uuA 21, uuA 22, uuA 23, uuA 24, uuA 25, uuA 26, uuA 27, uuA 28, uuA 29, uuA 30, uuA 31, uuA 32, uuA 33, uuA 34, uuA 35, uuA 36, uuA 37, uuA 38, uuA 39, uuA 40, uuA 41, uuA 42, uuA 43, uuA 44, uuA 45, uuA 46, uuA 47, uuA 48, uuA 49, uuA 50, uuA 51, uuA 52, uuA 53, uuA 54, uuA 55], []⟩ := ha
          rw [e0, e1, e2, e3, e4, e5, e6, e7, e8, e9, e10, e11, e12, e13, e14, e15, e16, e54, e55] at ha'
          clear ha huA e0 e1 e2 e3 e4 e5 e6 e7 e8 e9 e10 e11 e12 e13 e14 e15 e16 e54 e55 hfacts hout hszn hdfn hsz3 hdf3 f39 hB3 hR hb3
          subst ha'
          obtain ⟨⟨y0, y1, y2⟩, _⟩ := HMA.out.2.1.three
          have hb12 := fun cs => below_alloc1 w4A (.cells cs 24)
          have H12 := Lib.hid (And.intro HMA.out.1 (And.intro HMA.out.2.2.1 (And.intro HMA.out.2.2.2 hb12)))
          clear hb12
          go_wp2_with (at_builtin; refine wpList_append_rat rfl _ _ rfl w.heap.size q H _ rfl (H12.out.1.below (H12.out.2.2.2 _)) ⟨w4A.heap.size, 0, none⟩ 1 _ _ _ rfl (three_new _ _ _ _ _ _ rfl) (by rw [← hval2]; exact H12.out.2.1.below (H12.out.2.2.2 _)) (by omega) (below_next H12.out.2.2.1 (H12.out.2.2.2 _)).size ?_; intro v' w13 hO3 hgr3)
          go_roundw
          case rel => exact ⟨q + 1, by omega, by go_num, hO3, (below_next' H12.out.2.2.1 (H12.out.2.2.2 _)).grown hgr3 (below_next' H12.out.2.2.1 (H12.out.2.2.2 _)).size (fun k hk => (H12.out.1.own k hk).1)⟩
          case measure => simp [intOf]; omega
      · have hc2 : q < n2 := by omega
        have hval2 : 0 + g q = H q := by rw [← HA.out.2.2.1]; unfold addQ; rw [(ext_ge f (by omega : n1 ≤ q)), (ext_lt g hc2)]
        have hq1 : ¬ (q : Int) < (n1 : Int) := by omega
        have hq2 : (q : Int) < (n2 : Int) := by omega
        have HR := Lib.hid (And.intro hO hbel)
        clear hO hbel
        go_wp2_with fail
        refine (refFromInt_any 0 _ (by omega) (by omega)).mono ?_
        rintro e w1 ⟨v8, rfl, hv8, hb1⟩
        rw [quo_zero] at hv8
        have hv8' := hv8
        obtain ⟨z1, z2, z3, z4, z5, z6, rfl, _⟩ := hv8
        have hne : u6.ownBlock ≠ some w1.heap.size := fun e => by have h1 := (HR.out.1.own _ e).2; have h2 := hb1.size; omega
        obtain ⟨s0, hs0⟩ : ∃ s, decide ((0 : Rat).num < 0) = s := ⟨_, rfl⟩
        rw [hs0] at hv8' ⊢
        have hb2 := below_alloc1 w1 (.cells #[.bool s0, .slice z1 z2 z3, .slice z4 z5 z6] 24)
        have hbb := below_next' hb1 hb2
        have hB8 := BoxV.new w1 w.heap.size 24 (below_next' HR.out.2 hb1).size [.bool s0, .slice z1 z2 z3, .slice z4 z5 z6]
        have HM := Lib.hid (And.intro (HR.out.1.below hbb) (And.intro hB8 (And.intro (hv8'.below hb2) (below_next' HR.out.2 hbb))))
        clear hb1 hb2 hbb hB8 hv8' hs0
        have HX2 := Lib.hid (And.intro HM.out.1 (And.intro HM.out.2.1 (And.intro (boxC_of (k := 20) HM.out.2.1 HM.out.2.2.1 (sz_le sz_zero3 (by decide))) (And.intro HM.out.2.2.2 ((HA.out.2.1.below HM.out.2.2.2).elemV hc2)))))
        go_wp2_with fail
        refine region_flow_tail (Fe (raQ a2 n2 c2 q 0 (g q))) (by rfl) (Fe.mono _) 56 6 [] (by rfl) (by kernel_rfl) (by kernel_rfl) (by kernel_rfl) (by kernel_rfl) (fun t ht => by cases ht) [1, 7, 8] (by kernel_rfl) ?_ (Fe.draw _) ?_ ?_
        · intro t ht
          simp only [List.mem_cons, List.not_mem_nil, or_false] at ht
          rcases ht with rfl | rfl | rfl
          · exact ⟨rfl, HX2.out.2.2.2.2⟩
          · rfl
          · exact HX2.out.2.2.1
        · exact ⟨flowN_of (e_loadC rfl rfl) (by decide), flowN_of (e_move rfl) (by decide), flowN_of (e_move rfl) (by decide), flowN_of (e_index rfl rfl rfl hc2) (by decide), flowN_of (e_loadE rfl rfl) (by decide), flowN_of (e_add36 rfl rfl rfl (by omega)) (by decide), trivial⟩
        intro a3 w3B hb3 hsz3 hdf3 hfacts hout _
        have f39 : RatC w3B (a3.tmps.getD 49 undef) (0 + g q) := hfacts 5 49 (by decide) rfl
        rw [hval2] at f39
        have e0 : a3.tmps.getD 0 undef = .slice a1 n1 c1 := hout 0 (free_of (by kernel_rfl))
        have e1 : a3.tmps.getD 1 undef = .slice a2 n2 c2 := hout 1 (free_of (by kernel_rfl))
        have e2 : a3.tmps.getD 2 undef = undef := hout 2 (free_of (by kernel_rfl))
        have e3 : a3.tmps.getD 3 undef = undef := hout 3 (free_of (by kernel_rfl))
        have e4 : a3.tmps.getD 4 undef = .slice none 0 0 := hout 4 (free_of (by kernel_rfl))
        have e5 : a3.tmps.getD 5 undef = .bool false := hout 5 (free_of (by kernel_rfl))
        have e6 : a3.tmps.getD 6 undef = u6 := hout 6 (free_of (by kernel_rfl))
        have e7 : a3.tmps.getD 7 undef = .int .i64 q := hout 7 (free_of (by kernel_rfl))
        have e8 : a3.tmps.getD 8 undef = .pointer (some ⟨w1.heap.size, 0, none⟩) := hout 8 (free_of (by kernel_rfl))
        have e9 : a3.tmps.getD 9 undef = .slice a1 n1 c1 := hout 9 (free_of (by kernel_rfl))
        have e10 : a3.tmps.getD 10 undef = .int .i64 n1 := hout 10 (free_of (by kernel_rfl))
        have e11 : a3.tmps.getD 11 undef = .bool (decide (33 < (n1 : Int))) := hout 11 (free_of (by kernel_rfl))
        have e12 : a3.tmps.getD 12 undef = .bool (decide (33 < (n1 : Int))) := hout 12 (free_of (by kernel_rfl))
        have e13 : a3.tmps.getD 13 undef = .slice a2 n2 c2 := hout 13 (free_of (by kernel_rfl))
        have e14 : a3.tmps.getD 14 undef = .int .i64 n2 := hout 14 (free_of (by kernel_rfl))
        have e15 : a3.tmps.getD 15 undef = .bool (decide (33 < (n2 : Int))) := hout 15 (free_of (by kernel_rfl))
        have e16 : a3.tmps.getD 16 undef = .bool (decide (33 < (n1 : Int)) || decide (33 < (n2 : Int))) := hout 16 (free_of (by kernel_rfl))
        have e54 : a3.tmps.getD 54 undef = undef := hout 54 (free_of (by kernel_rfl))
        have e55 : a3.tmps.getD 55 undef = undef := hout 55 (free_of (by kernel_rfl))
        have hszn : a3.tmps.size = 56 := hsz3
        have hdfn : a3.defers = [] := hdf3
        have hB3 := HX2.out.2.1.below hb3
        change runFrom _ _ _ 1 6 a3 _
        simp only [runFrom]
        refine e_store (t := 8) (u := 49) rfl e8 hB3 f39 fun an' ln' cn' ad' ld' cd' hR => ?_
        obtain ⟨tB, htB⟩ : ∃ s', decide ((H q).num < 0) = s' := ⟨_, rfl⟩
        rw [htB] at hR ⊢
        have HMB := Lib.hid (And.intro ((HX2.out.1.below hb3).set hB3 (noLimb_rat _ _ _ _ _ _ _) hne (.bool tB) (.slice an' ln' cn') (.slice ad' ld' cd')) (And.intro (hB3.store3 (.bool tB) (.slice an' ln' cn') (.slice ad' ld' cd')) (And.intro (hR.other hB3 (noLimb_rat _ _ _ _ _ _ _) (grown_set3 w3B w1.heap.size (.bool tB) (.slice an' ln' cn') (.slice ad' ld' cd'))) (below_set3 (below_next' HX2.out.2.2.2.1 hb3) hB3.block.1 (.bool tB) (.slice an' ln' cn') (.slice ad' ld' cd')))))
        generalize (((w3B.setCell ⟨w1.heap.size, 0, none⟩ (.bool tB)).setCell ⟨w1.heap.size, 1, none⟩ (.slice an' ln' cn')).setCell ⟨w1.heap.size, 2, none⟩ (.slice ad' ld' cd')) = w4B at HMB ⊢
        obtain ⟨uuB, huB⟩ : ∃ u : Nat → Value, ∀ t, a3.tmps.getD t undef = u t := ⟨_, fun _ => rfl⟩
        have ha := act_eq a3 56 hszn hdfn
        simp only [huB] at ha e0 e1 e2 e3 e4 e5 e6 e7 e8 e9 e10 e11 e12 e13 e14 e15 e16 e54 e55
        have ha' : a3 = ⟨#[uuB 0, uuB 1, uuB 2, uuB 3, uuB 4, uuB 5, uuB 6, uuB 7, uuB 8, uuB 9, uuB 10, uuB 11, uuB 12, uuB 13, uuB 14, uuB 15, uuB 16, uuB 17, uuB 18, uuB 19, uuB 20, uuB 21, uuB 22, uuB 23, uuB 24, uuB 25, uuB 26, uuB 27, uuB 28, uuB 29, uuB 30, uuB 31, uuB 32, uuB 33, uuB 34, uuB 35, uuB 36, uuB 37, uuB 38, uuB 39, uuB 40, uuB 41, uuB 42, uuB 43, uuB 44, uuB 45, uuB 46, uuB 47, uuB 48, uuB 49, uuB 50, uuB 51, uuB 52, uuB 53, uuB 54, uuB 55], []⟩ := ha
        rw [e0, e1, e2, e3, e4, e5, e6, e7, e8, e9, e10, e11, e12, e13, e14, e15, e16, e54, e55] at ha'
        clear ha huB e0 e1 e2 e3 e4 e5 e6 e7 e8 e9 e10 e11 e12 e13 e14 e15 e16 e54 e55 hfacts hout hszn hdfn hsz3 hdf3 f39 hB3 hR hb3
        subst ha'
        obtain ⟨⟨y0, y1, y2⟩, _⟩ := HMB.out.2.1.three
        have hb12 := fun cs => below_alloc1 w4B (.cells cs 24)
        have H12 := Lib.hid (And.intro HMB.out.1 (And.intro HMB.out.2.2.1 (And.intro HMB.out.2.2.2 hb12)))
        clear hb12
        go_wp2_with (at_builtin; refine wpList_append_rat rfl _ _ rfl w.heap.size q H _ rfl (H12.out.1.below (H12.out.2.2.2 _)) ⟨w4B.heap.size, 0, none⟩ 1 _ _ _ rfl (three_new _ _ _ _ _ _ rfl) (H12.out.2.1.below (H12.out.2.2.2 _)) (by omega) (below_next H12.out.2.2.1 (H12.out.2.2.2 _)).size ?_; intro v' w13 hO3 hgr3)
        go_roundw
        case rel => exact ⟨q + 1, by omega, by go_num, hO3, (below_next' H12.out.2.2.1 (H12.out.2.2.2 _)).grown hgr3 (below_next' H12.out.2.2.1 (H12.out.2.2.2 _)).size (fun k hk => (H12.out.1.own k hk).1)⟩
        case measure => simp [intOf]; omega
    · have hno : ¬ (q < n1 ∨ q < n2) := fun h => hlt ((HN2.out q).1 h)
      have hq1 : ¬ (q : Int) < (n1 : Int) := by omega
      have hq2 : ¬ (q : Int) < (n2 : Int) := by omega
      obtain rfl : q = N := by omega
      have hl := hO.lst
      obtain ⟨oa, oc, rfl, _⟩ := id hl
      have HF := Lib.hid (And.intro (hl.toA fun i _ => HA.out.2.2.2.1 i) hbel)
      clear hO hbel hlt hno hl
      go_wp2_with fail
      refine (refCanonical_list oa q oc 19 H _ HF.out.1 (by omega) (by omega)).mono ?_
      rintro e w2 ⟨v, rfl, hv, hb2⟩
      rw [HA.out.2.2.2.2.1] at hv
      have HE := Lib.hid (And.intro hv (below_next' HF.out.2 hb2))
      clear hv hb2
      go_wp2
      go_ret2
      exact ⟨_, rfl, HE.out.1, HE.out.2⟩
end Go.Proofs.Ytdpiclmjdcjajaa

/-
  The walk of multiplyAll on canonical numbers. Conditions: at most 40 numbers, of at most 9000 limbs in all.
-/
namespace Go.Proofs.Ytdpiclmjdcjajaa
open Go.RowKit Num

section
variable {κ : Tmp → Ke} {G : Nat → Option Tmp} {d s t u c : Tmp} {ty : TypeId} {pos : String} {es : Array Edge} {k k' : Nat} {p q : Rat}
theorem e_mulC (ht : κ t = .ratC p) (hp : Sz p k) (hu : κ u = .ra k' q) (hd : κ d = .ratC (p * q)) (hk : k + k' ≤ 20000) :
    FlowStep Try.prog (Fe κ) G ⟨some d, .call ⟨.value (.func 73), #[.tmp t, .tmp u], #[24, 24]⟩, ty, pos, es, none⟩ :=
  e_c2 (fun a w => c2_73b _ _ _ _ _ _ _ _) fun w x y hx hy => by
    rw [ht] at hx
    rw [hu] at hy
    have hx : RatC w x p := hx
    have hy : RatA w y k' q := hy
    refine (mul_a (k := k + k') ((hx.a hp).le (by omega)) (hy.le (by omega)) hk).mono ?_
    rintro e w' ⟨v, rfl, hv, hb⟩
    exact ⟨v, rfl, by rw [hd]; exact hv, hb⟩
theorem e_idx32 {g n cap i : Nat} (ht : κ t = .con (.slice (some ⟨g, 0, none⟩) n cap)) (hu : κ u = .con (.int .i64 i)) (hd : κ d = .con (.pointer (some ⟨g, 0 + i * 3, none⟩))) (hi : i < n) : FlowStep Try.prog (Fe κ) G ⟨some d, .indexAddr 32 (.tmp t) (.tmp u), ty, pos, es, none⟩ :=
  e_bi (by simp [Op.operands]) (by simp [Op.operands]) ht hu hd fun a w h h' => run_index _ _ _ _ _ _ _ _ g 0 n cap i h h' hi
end

theorem run_storeL (a : Act) (d : Option Tmp) (ty : TypeId) (pos : String) (es : Array Edge) (w : World) (t u : Tmp) (g o : Nat) (b : Bool) (p q : Option Addr) (n c m e : Nat) (x y z : Value)
    (ht : a.tmps.getD t undef = .pointer (some ⟨g, o, none⟩)) (hu : a.tmps.getD u undef = .agg #[.bool b, .slice p n c, .slice q m e]) (h0 : w.cell? ⟨g, o, none⟩ = some x) (h1 : w.cell? ⟨g, o + 1, none⟩ = some y) (h2 : w.cell? ⟨g, o + 2, none⟩ = some z)
    (f0 : w.frozen? ⟨g, o, none⟩ = false) (f1 : w.frozen? ⟨g, o + 1, none⟩ = false) (f2 : w.frozen? ⟨g, o + 2, none⟩ = false) :
    Sem.run Try.prog (execOp a.eval ⟨d, .store 24 (.tmp t) (.tmp u), ty, pos, es, none⟩) w = .ok .skip (((w.setCell ⟨g, o, none⟩ (.bool b)).setCell ⟨g, o + 1, none⟩ (.slice p n c)).setCell ⟨g, o + 2, none⟩ (.slice q m e)) := by
  go_simp

/-- The next element of a list is stored at the region's end. -/
theorem e_storeL {ops : Array Oper} {Q : Exit → Act → World → Prop} {K : Act → World → Prop} {m t u B g k i : Nat} {f : Nat → Rat} {a : Act} {w : World} {ty : TypeId} {pos : String} {es : Array Edge}
    (ho : ops[m]? = some ⟨none, .store 24 (.tmp t) (.tmp u), ty, pos, es, none⟩) (ht : a.tmps.getD t undef = .pointer (some ⟨g, 0 + i * 3, none⟩)) (hL : LstI B g k f i w) (hi : i < k) (hu : RatC w (a.tmps.getD u undef) (f i))
    (h : ∀ v0 v1 v2, LstI B g k f (i + 1) (((w.setCell ⟨g, i * 3, none⟩ v0).setCell ⟨g, i * 3 + 1, none⟩ v1).setCell ⟨g, i * 3 + 2, none⟩ v2) → K a (((w.setCell ⟨g, i * 3, none⟩ v0).setCell ⟨g, i * 3 + 1, none⟩ v1).setCell ⟨g, i * 3 + 2, none⟩ v2)) :
    wpOp Try.prog ops Q m K a w := by
  have hC := hu
  obtain ⟨an, ln, cn, ad, ld, cd, hv, hn, hd⟩ := hu
  rw [hv] at hC
  have hT := hL.store hi hC
  obtain ⟨xs, l1, l2, l3, _⟩ := hL
  have hxl : i * 3 + 2 < xs.length := by omega
  have t0 : w.cell? ⟨g, i * 3, none⟩ = some xs[i * 3] := by rw [l1.cell _ (by omega)]; exact List.getElem?_eq_getElem _
  have t1 : w.cell? ⟨g, i * 3 + 1, none⟩ = some xs[i * 3 + 1] := by rw [l1.cell _ (by omega)]; exact List.getElem?_eq_getElem _
  have t2 : w.cell? ⟨g, i * 3 + 2, none⟩ = some xs[i * 3 + 2] := by rw [l1.cell _ (by omega)]; exact List.getElem?_eq_getElem _
  unfold wpOp
  rw [ho]
  simp only [Region.wanted, if_true]
  left
  unfold Oper.wp
  rw [Nat.zero_add] at ht
  rw [run_storeL a none ty pos es w t u g (i * 3) _ an ad ln cn ld cd _ _ _ ht hv t0 t1 t2 (l1.frozen _) (l1.frozen _) (l1.frozen _), Oper.upon_skip]
  exact h _ _ _ hT

theorem below_setL {B : Nat} {a w : World} (h : Below B a w) {g o : Nat} (hg : B ≤ g) (x y z : Value) : Below B a (((w.setCell ⟨g, o, none⟩ x).setCell ⟨g, o + 1, none⟩ y).setCell ⟨g, o + 2, none⟩ z) :=
  ((h.setCell (p := ⟨g, o, none⟩) hg x).setCell (p := ⟨g, o + 1, none⟩) hg y).setCell (p := ⟨g, o + 2, none⟩) hg z
theorem grown_setL (w : World) (g o : Nat) (x y z : Value) : w.grownBy (((w.setCell ⟨g, o, none⟩ x).setCell ⟨g, o + 1, none⟩ y).setCell ⟨g, o + 2, none⟩ z) (some g) :=
  grown_setCell (grown_setCell (grown_setCell (World.grownBy.refl _ _) _) _) _

def maK (a : Option Addr) (g n cap i K : Nat) (m p : Rat) : Tmp → Ke := fun t => ([.slC a n cap i p, .any, .any, .box K m, .any, .con (.slice (some ⟨g, 0, none⟩) n n), .con (.int .i64 i), .any, .any, .any, .any, .any, .any, .any, .any, .con (.slice (some ⟨g, 0, none⟩) n n), .con (.int .i64 i), .slC a n cap i p, .con (.int .i64 i), .elC p, .ratC p, .ra K m, .ratC (p * m), .con (.pointer (some ⟨g, 0 + i * 3, none⟩)), .any, .any] : List Ke).getD t .any

set_option maxRecDepth 100000 in
set_option maxHeartbeats 8000000 in
theorem multiplyAll_any (a : Option Addr) (n cap k K : Nat) (f : Nat → Rat) (m : Rat) (v0 : Value) (w : World) (hn : n ≤ 40) (hl : Lst w (.slice a n cap) n f) (hf : ∀ i, i < n → Sz (f i) k) (h0 : RatC w v0 m) (hs : Sz m K) (hk : k + K ≤ 20000) :
    Calls Try.prog 115 #[.slice a n cap, v0] w (fun e w' => ∃ g, e = .returned (.slice (some ⟨g, 0, none⟩) n n) ∧ LstI w.heap.size g n (fun i => f i * m) n w' ∧ Below w.heap.size w w') := by
  obtain ⟨H, hH⟩ : ∃ H, (fun i => f i * m) = H := ⟨_, rfl⟩
  have hHi : ∀ i, f i * m = H i := fun i => by rw [← hH]
  rw [hH]
  obtain ⟨z1, z2, z3, z4, z5, z6, rfl, _⟩ := id h0
  obtain ⟨s0, hs0⟩ : ∃ s, decide (m.num < 0) = s := ⟨_, rfl⟩
  rw [hs0] at h0 ⊢
  have hz : ∀ o, (w.alloc o).heap.size = w.heap.size + 1 := fun o => Array.size_push _
  have hb0 := below_alloc1 w (.cells #[.bool s0, .slice z1 z2 z3, .slice z4 z5 z6] 24)
  have hBn := BoxV.new w w.heap.size 24 (Nat.le_refl _) [.bool s0, .slice z1 z2 z3, .slice z4 z5 z6]
  have hb1 := below_alloc1 (w.alloc (.cells #[.bool s0, .slice z1 z2 z3, .slice z4 z5 z6] 24)) (.cells (madeCells #[.bool false, .slice none 0 0, .slice none 0 0] (n * 3)) 24)
  have hL0 := LstI.new (w.alloc (.cells #[.bool s0, .slice z1 z2 z3, .slice z4 z5 z6] 24)) w.heap.size n H (by rw [hz]; exact Nat.le_succ _)
  rw [hz] at hL0
  have HA := Lib.hid (And.intro (hBn.below hb1) (And.intro ((h0.below hb0).below hb1) (And.intro hL0 (below_next' hb0 hb1))))
  have HS := Lib.hid (And.intro hl (And.intro hf (And.intro hs hHi)))
  clear hb0 hBn hb1 hL0 h0 hl hf hs hHi hH hz hs0
  go_enter Try.func115, Try.ntmps115
  go_wp2_with fail
  rw [run_make32 n _ (by omega)]
  go_wp2_with fail
  go_loopw [12] (fun x wr => ∃ q : Nat, q ≤ n ∧ x = .int .i64 q ∧ BoxV wr w.heap.size w.heap.size 24 [.bool s0, .slice z1 z2 z3, .slice z4 z5 z6] ∧ RatC wr (.agg #[.bool s0, .slice z1 z2 z3, .slice z4 z5 z6]) m ∧ LstI w.heap.size (w.heap.size + 1) n H q wr ∧ Below w.heap.size w wr) (fun x _ => n - (intOf x).toNat)
  case atStart => exact ⟨0, Nat.zero_le _, rfl, HA.out⟩
  case round =>
    obtain ⟨q, hq, rfl, hB, hC, hT, hbel⟩ := hrel
    by_cases hlt : q < n
    · have hqi : (q : Int) < (n : Int) := by omega
      have HR := Lib.hid (And.intro (boxC_of hB hC HS.out.2.2.1) (And.intro hB (And.intro hC (And.intro hT (And.intro hbel ((HS.out.1.elem hlt).below hbel))))))
      clear hB hC hT hbel
      go_wp2_with fail
      refine region_flow_tail (Fe (maK a (w.heap.size + 1) n cap q K m (f q))) (by rfl) (Fe.mono _) 26 9 [] (by rfl) (by kernel_rfl) (by kernel_rfl) (by kernel_rfl) (by kernel_rfl) (fun t ht => by cases ht) [0, 3, 5, 6] (by kernel_rfl) ?g0 (Fe.draw _) ?gs ?gf
      case g0 =>
        intro t ht
        simp only [List.mem_cons, List.not_mem_nil, or_false] at ht
        rcases ht with rfl | rfl | rfl | rfl
        · exact ⟨rfl, HR.out.2.2.2.2.2⟩
        · exact HR.out.1
        · rfl
        · rfl
      case gs =>
        exact ⟨flowN_of (e_move rfl) (by decide), flowN_of (e_move rfl) (by decide), flowN_of (e_move rfl) (by decide), flowN_of (e_move rfl) (by decide), flowN_of (e_indexC rfl rfl rfl hlt) (by decide), flowN_of (e_loadEC rfl rfl) (by decide), flowN_of (e_loadC rfl rfl) (by decide), flowN_of (e_mulC rfl (HS.out.2.1 q hlt) rfl rfl hk) (by decide), flowN_of (e_idx32 rfl rfl rfl hlt) (by decide), trivial⟩
      intro a3 w3 hb3 hsz3 hdf3 hfacts hout _
      have f22 : RatC w3 (a3.tmps.getD 22 undef) (f q * m) := hfacts 7 22 (by decide) rfl
      have f23 : a3.tmps.getD 23 undef = .pointer (some ⟨w.heap.size + 1, 0 + q * 3, none⟩) := hfacts 8 23 (by decide) rfl
      rw [HS.out.2.2.2] at f22
      have e0 : a3.tmps.getD 0 undef = .slice a n cap := hout 0 (free_of (by kernel_rfl))
      have e1 : a3.tmps.getD 1 undef = .agg #[.bool s0, .slice z1 z2 z3, .slice z4 z5 z6] := hout 1 (free_of (by kernel_rfl))
      have e2 : a3.tmps.getD 2 undef = undef := hout 2 (free_of (by kernel_rfl))
      have e3 : a3.tmps.getD 3 undef = .pointer (some ⟨w.heap.size, 0, none⟩) := hout 3 (free_of (by kernel_rfl))
      have e4 : a3.tmps.getD 4 undef = .slice none 0 0 := hout 4 (free_of (by kernel_rfl))
      have e5 : a3.tmps.getD 5 undef = .slice (some ⟨w.heap.size + 1, 0, none⟩) n n := hout 5 (free_of (by kernel_rfl))
      have e6 : a3.tmps.getD 6 undef = .int .i64 q := hout 6 (free_of (by kernel_rfl))
      have e7 : a3.tmps.getD 7 undef = .slice a n cap := hout 7 (free_of (by kernel_rfl))
      have e8 : a3.tmps.getD 8 undef = .int .i64 n := hout 8 (free_of (by kernel_rfl))
      have e9 : a3.tmps.getD 9 undef = .slice (some ⟨w.heap.size + 1, 0, none⟩) n n := hout 9 (free_of (by kernel_rfl))
      have e10 : a3.tmps.getD 10 undef = .slice (some ⟨w.heap.size + 1, 0, none⟩) n n := hout 10 (free_of (by kernel_rfl))
      have e11 : a3.tmps.getD 11 undef = .int .i64 n := hout 11 (free_of (by kernel_rfl))
      have e12 : a3.tmps.getD 12 undef = .int .i64 q := hout 12 (free_of (by kernel_rfl))
      have e25 : a3.tmps.getD 25 undef = undef := hout 25 (free_of (by kernel_rfl))
      have hszn : a3.tmps.size = 26 := hsz3
      have hdfn : a3.defers = [] := hdf3
      change runFrom _ _ _ 1 9 a3 w3
      simp only [runFrom]
      refine e_storeL (t := 23) (u := 22) rfl f23 (HR.out.2.2.2.1.below hb3) hlt f22 fun v0 v1 v2 hL => ?_
      obtain ⟨xs, l1, l2, l3, _⟩ := HR.out.2.2.2.1.below hb3
      have hgr := grown_setL w3 (w.heap.size + 1) (q * 3) v0 v1 v2
      have HN := Lib.hid (And.intro ((HR.out.2.1.below hb3).kept hgr (by simp)) (And.intro ((HR.out.2.2.1.below hb3).other l1 l3 hgr) (And.intro hL (below_setL (below_next' HR.out.2.2.2.2.1 hb3) (o := q * 3) (Nat.le_succ _) v0 v1 v2))))
      generalize (((w3.setCell ⟨w.heap.size + 1, q * 3, none⟩ v0).setCell ⟨w.heap.size + 1, q * 3 + 1, none⟩ v1).setCell ⟨w.heap.size + 1, q * 3 + 2, none⟩ v2) = w4 at HN ⊢
      obtain ⟨uu, hu⟩ : ∃ u : Nat → Value, ∀ t, a3.tmps.getD t undef = u t := ⟨_, fun _ => rfl⟩
      have ha := act_eq a3 26 hszn hdfn
      simp only [hu] at ha e0 e1 e2 e3 e4 e5 e6 e7 e8 e9 e10 e11 e12 e25
      have ha' : a3 = ⟨#[uu 0, uu 1, uu 2, uu 3, uu 4, uu 5, uu 6, uu 7, uu 8, uu 9, uu 10, uu 11, uu 12, uu 13, uu 14, uu 15, uu 16, uu 17, uu 18, uu 19, uu 20, uu 21, uu 22, uu 23, uu 24, uu 25], []⟩ := ha
      rw [e0, e1, e2, e3, e4, e5, e6, e7, e8, e9, e10, e11, e12, e25] at ha'
      clear ha hu e0 e1 e2 e3 e4 e5 e6 e7 e8 e9 e10 e11 e12 e25 hfacts hout hszn hdfn hsz3 hdf3 f22 f23 hb3 hL hgr l1 l2 l3
      subst ha'
      go_wp2
      go_roundw
      case rel => exact ⟨q + 1, by omega, by go_num, HN.out⟩
      case measure => simp [intOf]; omega
    · obtain rfl : q = n := by omega
      have HF := Lib.hid (And.intro hT hbel)
      clear hB hC hT hbel hlt
      go_wp2
      go_ret
      exact ⟨_, rfl, HF.out.1, HF.out.2⟩
end Go.Proofs.Ytdpiclmjdcjajaa

/-
  The walks of keep.Rats with the limits 36 and 10, and of the laws' few. No conditions.
-/
namespace Go.Proofs.Ytdpiclmjdcjajaa
open Go.RowKit Num

def RatsP36 (n : Nat) (sm : Nat → Bool) (w : World) (e : Ending) (w' : World) : Prop := ∃ b, e = .returned (.bool b) ∧ (b = true → n ≤ 36 ∧ ∀ i, i < n → sm i = true) ∧ Below w.heap.size w w'

set_option maxHeartbeats 2000000 in
theorem rats36_any (a : Option Addr) (n cap : Nat) (f : Nat → Rat) (sm : Nat → Bool) (w : World) (hn : n ≤ 9223372036854775807) (h : ∀ i, i < n → ElemAt w a i f sm) :
    Calls Try.prog 24 #[.slice a n cap, .int .i64 36] w (RatsP36 n sm w) := by
  go_enter Try.func24, Try.ntmps24
  go_wp2
  go_loopw [5] (fun i wr => ∃ q : Nat, i = .int .i64 q ∧ q ≤ n ∧ q ≤ 37 ∧ (∀ j, j < q → sm j = true) ∧ Below w.heap.size w wr) (fun i _ => 37 - (intOf i).toNat)
  case atStart => exact ⟨0, rfl, Nat.zero_le _, by omega, fun j hj => by omega, Below.refl _ _⟩
  case round =>
    obtain ⟨q, rfl, hq, hq13, hsm, hbel⟩ := hrel
    by_cases hlt : q < n ∧ q ≤ 36
    · obtain ⟨b, o, neg, an, m, cn, ad, m2, cd, k, rfl, c0, c1, c2, hr, hs⟩ := (h q hlt.1).below hbel
      have h1 := hlt.1
      have h2 := hlt.2
      have HS := Lib.hid (And.intro hsm (And.intro hbel hs))
      clear hlt hsm hbel hs hr
      go_wp2_with fail
      refine (keepRat_any _ _ _ _ _ _ _ _).mono ?_
      rintro e w1 ⟨rfl, hb1⟩
      rw [← HS.out.2.2]
      have HB := Lib.hid (below_next' HS.out.2.1 hb1)
      clear c0 c1 c2 hb1
      cases hsq : sm q
      · go_wp2
        go_ret
        exact ⟨false, rfl, fun e => (by cases e), HB.out⟩
      · have HQ := Lib.hid hsq
        go_wp2
        go_round
        case rel =>
          refine ⟨q + 1, by go_num, by omega, by omega, fun j hj => ?_, HB.out⟩
          rcases Nat.lt_or_ge j q with h | h
          · exact HS.out.1 j h
          · rw [show j = q by omega]; exact HQ.out
        case measure => simp [intOf]; omega
    · have HS := Lib.hid (And.intro hsm (And.intro hbel hlt))
      clear hsm hbel
      by_cases h1 : q < n
      · have h2 : ¬ q ≤ 36 := fun h => hlt ⟨h1, h⟩
        clear hlt
        go_wp2
        go_ret
        refine ⟨_, rfl, fun e => ?_, HS.out.2.1⟩
        simp at e
        omega
      · clear hlt
        go_wp2
        go_ret
        refine ⟨_, rfl, fun e => ?_, HS.out.2.1⟩
        simp at e
        exact ⟨by omega, fun i hi => HS.out.1 i (by omega)⟩

def RatsP10 (n : Nat) (sm : Nat → Bool) (w : World) (e : Ending) (w' : World) : Prop := ∃ b, e = .returned (.bool b) ∧ (b = true → n ≤ 10 ∧ ∀ i, i < n → sm i = true) ∧ Below w.heap.size w w'

set_option maxHeartbeats 2000000 in
theorem rats10_any (a : Option Addr) (n cap : Nat) (f : Nat → Rat) (sm : Nat → Bool) (w : World) (hn : n ≤ 9223372036854775807) (h : ∀ i, i < n → ElemAt w a i f sm) :
    Calls Try.prog 24 #[.slice a n cap, .int .i64 10] w (RatsP10 n sm w) := by
  go_enter Try.func24, Try.ntmps24
  go_wp2
  go_loopw [5] (fun i wr => ∃ q : Nat, i = .int .i64 q ∧ q ≤ n ∧ q ≤ 11 ∧ (∀ j, j < q → sm j = true) ∧ Below w.heap.size w wr) (fun i _ => 11 - (intOf i).toNat)
  case atStart => exact ⟨0, rfl, Nat.zero_le _, by omega, fun j hj => by omega, Below.refl _ _⟩
  case round =>
    obtain ⟨q, rfl, hq, hq13, hsm, hbel⟩ := hrel
    by_cases hlt : q < n ∧ q ≤ 10
    · obtain ⟨b, o, neg, an, m, cn, ad, m2, cd, k, rfl, c0, c1, c2, hr, hs⟩ := (h q hlt.1).below hbel
      have h1 := hlt.1
      have h2 := hlt.2
      have HS := Lib.hid (And.intro hsm (And.intro hbel hs))
      clear hlt hsm hbel hs hr
      go_wp2_with fail
      refine (keepRat_any _ _ _ _ _ _ _ _).mono ?_
      rintro e w1 ⟨rfl, hb1⟩
      rw [← HS.out.2.2]
      have HB := Lib.hid (below_next' HS.out.2.1 hb1)
      clear c0 c1 c2 hb1
      cases hsq : sm q
      · go_wp2
        go_ret
        exact ⟨false, rfl, fun e => (by cases e), HB.out⟩
      · have HQ := Lib.hid hsq
        go_wp2
        go_round
        case rel =>
          refine ⟨q + 1, by go_num, by omega, by omega, fun j hj => ?_, HB.out⟩
          rcases Nat.lt_or_ge j q with h | h
          · exact HS.out.1 j h
          · rw [show j = q by omega]; exact HQ.out
        case measure => simp [intOf]; omega
    · have HS := Lib.hid (And.intro hsm (And.intro hbel hlt))
      clear hsm hbel
      by_cases h1 : q < n
      · have h2 : ¬ q ≤ 10 := fun h => hlt ⟨h1, h⟩
        clear hlt
        go_wp2
        go_ret
        refine ⟨_, rfl, fun e => ?_, HS.out.2.1⟩
        simp at e
        omega
      · clear hlt
        go_wp2
        go_ret
        refine ⟨_, rfl, fun e => ?_, HS.out.2.1⟩
        simp at e
        exact ⟨by omega, fun i hi => HS.out.1 i (by omega)⟩


theorem few_any (a : Option Addr) (n cap : Nat) (f : Nat → Rat) (sm : Nat → Bool) (w : World) (hn : n ≤ 9223372036854775807) (h : ∀ i, i < n → ElemAt w a i f sm) :
    Calls Try.prog 46 #[.slice a n cap] w (RatsP10 n sm w) := by
  have HA := Lib.hid (rats10_any a n cap f sm w hn h)
  clear h
  go_enter Try.func46, Try.ntmps46
  go_wp2_with fail
  refine HA.out.mono ?_
  rintro e w1 ⟨b, rfl, hb, hb1⟩
  have HB := Lib.hid (And.intro hb hb1)
  clear hb hb1
  go_wp2
  go_ret
  exact ⟨_, rfl, HB.out.1, HB.out.2⟩
end Go.Proofs.Ytdpiclmjdcjajaa

/-
  The integer scale of a list of numbers. No conditions.
-/
namespace Go.Proofs.Ytdpiclmjdcjajaa
open Go.RowKit Num

theorem den_mul_nat (q : Rat) (s : Nat) : (q * (s : Rat)).den ≤ q.den := by
  have e : q * (s : Rat) = mkRat (q.num * (s : Int)) q.den := by
    have h1 : (s : Rat) = mkRat (s : Int) 1 := (Rat.mkRat_one _).symm
    rw [h1]
    have h2 := Rat.mkRat_mul_mkRat q.num (s : Int) q.den 1
    rw [Rat.mkRat_self, Nat.mul_one] at h2
    exact h2
  rw [e, Rat.den_mkRat, if_neg q.den_nz]
  exact Nat.div_le_self _ _
/-- The scale of the first numbers. -/
def scl (f : Nat → Rat) : Nat → Nat
  | 0 => 1
  | i + 1 => scl f i * (f i * (scl f i : Rat)).den
theorem scl_pos (f : Nat → Rat) : ∀ i, 1 ≤ scl f i
  | 0 => Nat.le_refl _
  | i + 1 => Nat.mul_pos (scl_pos f i) (f i * (scl f i : Rat)).den_pos
theorem scl_lt {f : Nat → Rat} {n K : Nat} (h : ∀ i, i < n → Sz (f i) K) : ∀ i, i ≤ n → scl f i < pw (K * i + 1)
  | 0, _ => show 1 < pw 1 from by rw [show pw 1 = 1000000000 from rfl]; omega
  | i + 1, hi => by
    have h1 := scl_lt h i (by omega)
    have h2 : (f i * (scl f i : Rat)).den < pw K := Nat.lt_of_le_of_lt (den_mul_nat _ _) (h i (by omega)).2
    have h3 : scl f i * (f i * (scl f i : Rat)).den < pw (K * i + 1) * pw K := Nat.mul_lt_mul_of_lt_of_lt h1 h2
    rw [← pw_add] at h3
    rw [show K * (i + 1) + 1 = K * i + 1 + K by rw [Nat.mul_succ]; omega]
    exact h3
theorem sz_natR {m k : Nat} (h : m < pw k) (hk : 1 ≤ k) : Sz (m : Rat) k := by
  rw [← quo_castN, quo_natc]
  exact sz_rat h (Nat.lt_of_lt_of_le (show 1 < pw 1 from by rw [show pw 1 = 1000000000 from rfl]; omega) (pw_le hk)) hk
theorem scl_next (f : Nat → Rat) (i : Nat) : (scl f i : Rat) * (((f i * (scl f i : Rat)).den : Nat) : Rat) = ((scl f (i + 1) : Nat) : Rat) := by
  show _ = ((scl f i * (f i * (scl f i : Rat)).den : Nat) : Rat)
  rw [Rat.natCast_mul]
/-- A whole number made of the limbs of a canonical one and the limb 1. -/
theorem ratA_whole {w : World} {a b : Option Addr} {n c m c' : Nat} {x k : Nat} (h : Nt w (.slice a n c) x) (hx : x < pw k) (hk : 1 ≤ k) (h1 : Nt w (.slice b m c') 1) : RatA w (.agg #[.bool false, .slice a n c, .slice b m c']) k (x : Rat) := by
  obtain ⟨l, hl, e, hn⟩ := h.list hx
  obtain ⟨l1, hl1, e1, hn1⟩ := h1.list (k := k) (Nat.lt_of_lt_of_le (show 1 < pw 1 from by rw [show pw 1 = 1000000000 from rfl]; omega) (pw_le hk))
  have s1 : n = l.length := by obtain ⟨_, _, e, _⟩ := hl; simp at e; omega
  have s2 : m = l1.length := by obtain ⟨_, _, e, _⟩ := hl1; simp at e; omega
  subst s1
  subst s2
  refine ⟨false, a, c, b, c', l, l1, rfl, hl, hl1, hn, hn1, ?_⟩
  rw [e, e1]
  show (x : Rat) = mkRat (x : Int) 1
  exact (Rat.mkRat_one _).symm
end Go.Proofs.Ytdpiclmjdcjajaa

/-
  The walk of scaleToIntegers on canonical numbers. Condition: at most 33 numbers of at most 9 limbs.
-/
namespace Go.Proofs.Ytdpiclmjdcjajaa
open Go.RowKit Num

theorem run_den (s : Bool) (a b : Option Addr) (n c m d : Nat) (w : World) : (Instr.field 24 (.agg #[.bool s, .slice a n c, .slice b m d]) 2).run Try.prog w = .ok (.slice b m d) w := by kernel_rfl

/-- A list of canonical numbers, as a slot's value. -/
def Ke.lst (v0 : Value) (n : Nat) (f : Nat → Rat) : Ke := ⟨fun w v => v = v0 ∧ Lst w v n f, fun hb h => ⟨h.1, h.2.below hb⟩⟩
def Ke.lsi (n : Nat) (f : Nat → Rat) : Ke := ⟨fun w v => ∃ B g, v = .slice (some ⟨g, 0, none⟩) n n ∧ LstI B g n f n w, fun hb ⟨B, g, e, h⟩ => ⟨B, g, e, h.below hb⟩⟩
/-- A list with its scale. -/
def Scaled (w : World) (v : Value) (n : Nat) (f : Nat → Rat) (S : Rat) : Prop :=
  ∃ B g s an ln cn ad ld cd, v = .agg #[.slice (some ⟨g, 0, none⟩) n n, .bool s, .slice an ln cn, .slice ad ld cd] ∧ LstI B g n f n w ∧ RatC w (.agg #[.bool s, .slice an ln cn, .slice ad ld cd]) S
theorem Scaled.below {w w' : World} {v : Value} {n : Nat} {f : Nat → Rat} {S : Rat} (hb : Below w.heap.size w w') (h : Scaled w v n f S) : Scaled w' v n f S := by
  obtain ⟨B, g, s, an, ln, cn, ad, ld, cd, e, h1, h2⟩ := h
  exact ⟨B, g, s, an, ln, cn, ad, ld, cd, e, h1.below hb, h2.below hb⟩
def Ke.sca (n : Nat) (f : Nat → Rat) (S : Rat) : Ke := ⟨fun w v => Scaled w v n f S, fun hb h => h.below hb⟩

section
variable {κ : Tmp → Ke} {G : Nat → Option Tmp} {d s t u c : Tmp} {ty : TypeId} {pos : String} {es : Array Edge} {k k' : Nat} {p q : Rat}
theorem c2_115 (a : Act) (d : Option Tmp) (ty : TypeId) (pos : String) (es : Array Edge) (t u : Tmp) (w : World) :
    Sem.run Try.prog (execOp a.eval ⟨d, .call ⟨.value (.func 115), #[.tmp t, .tmp u], #[32, 24]⟩, ty, pos, es, none⟩) w = .ok (.enter 115 #[a.tmps.getD t undef, a.tmps.getD u undef]) w := by go_simp
set_option maxRecDepth 100000 in
theorem e_multAll {a' : Option Addr} {n cap K : Nat} {f : Nat → Rat} (ht : κ t = .lst (.slice a' n cap) n f) (hu : κ u = .rc K p) (hd : κ d = .lsi n (fun i => f i * p)) (hn : n ≤ 40) (hf : ∀ i, i < n → Sz (f i) k) (hk : k + K ≤ 20000) :
    FlowStep Try.prog (Fe κ) G ⟨some d, .call ⟨.value (.func 115), #[.tmp t, .tmp u], #[32, 24]⟩, ty, pos, es, none⟩ := by
  refine e_step rfl fun a w Q hf' => ?_
  have h := hf' t (by simp [Op.operands, Call.operands])
  have h' := hf' u (by simp [Op.operands, Call.operands])
  rw [ht] at h
  rw [hu] at h'
  obtain ⟨e1, h1⟩ := (show a.tmps.getD t undef = .slice a' n cap ∧ Lst w _ n f from h)
  obtain ⟨h2, h3⟩ := (show RatC w _ p ∧ Sz p K from h')
  rw [e1] at h1
  unfold Oper.wp
  rw [c2_115, e1, Oper.upon_enter]
  refine (multiplyAll_any a' n cap k K f p _ w hn h1 hf h2 h3 hk).mono ?_
  rintro e w' ⟨g, rfl, hv, hb⟩
  exact ⟨_, rfl, hb, fun d' hd' => by cases hd'; rw [hd]; exact ⟨_, g, rfl, hv⟩⟩
theorem run_build80 (a : Act) (d : Option Tmp) (ty : TypeId) (pos : String) (es : Array Edge) (t u : Tmp) (w : World) (x b y z : Value) (c1 : Option Addr) (n1 m1 : Nat) (hx : x = .slice c1 n1 m1) (ht : a.tmps.getD t undef = x) (hu : a.tmps.getD u undef = .agg #[b, y, z]) :
    Sem.run Try.prog (execOp a.eval ⟨d, .build 80 #[(0, .tmp t), (1, .tmp u)], ty, pos, es, none⟩) w = .ok (.value (.agg #[x, b, y, z])) w := by
  subst hx
  rw [Array.getD_eq_getD_getElem?] at ht hu
  go_simp
set_option maxRecDepth 100000 in
theorem e_build80 {n : Nat} {f : Nat → Rat} {K : Nat} (ht : κ t = .lsi n f) (hu : κ u = .rc K p) (hd : κ d = .sca n f p) : FlowStep Try.prog (Fe κ) G ⟨some d, .build 80 #[(0, .tmp t), (1, .tmp u)], ty, pos, es, none⟩ := by
  refine e_step rfl fun a w Q hf => ?_
  have h := hf t (by simp [Op.operands])
  have h' := hf u (by simp [Op.operands])
  rw [ht] at h
  rw [hu] at h'
  obtain ⟨B, g, e, hL⟩ := (show ∃ B g, a.tmps.getD t undef = .slice (some ⟨g, 0, none⟩) n n ∧ LstI B g n f n w from h)
  obtain ⟨h2, _⟩ := (show RatC w _ p ∧ Sz p K from h')
  have h2' := h2
  obtain ⟨an, ln, cn, ad, ld, cd, ev, _⟩ := h2
  rw [ev] at h2'
  unfold Oper.wp
  rw [run_build80 _ _ _ _ _ _ _ _ _ _ _ _ _ _ _ rfl e ev, Oper.upon_value]
  exact ⟨_, rfl, Below.refl _ _, fun d' hd' => by cases hd'; rw [hd]; exact ⟨B, g, _, _, _, _, _, _, _, rfl, hL, h2'⟩⟩
end

theorem boxV_setT {w : World} {B g T : Nat} {xs : List Value} (h : BoxV w B g T xs) (j : Nat) (v : Value) : BoxV (w.setCell ⟨g, j, none⟩ v) B g T (xs.set j v) := by
  have := (World.ownsRow.stored h j v).1
  unfold BoxV
  rw [List.length_set]
  exact this
theorem run_store80 (a : Act) (d : Option Tmp) (ty : TypeId) (pos : String) (es : Array Edge) (w : World) (t u : Tmp) (g : Nat) (b : Bool) (r p q : Option Addr) (i j n c m e : Nat) (x y z v : Value)
    (ht : a.tmps.getD t undef = .pointer (some ⟨g, 0, none⟩)) (hu : a.tmps.getD u undef = .agg #[.slice r i j, .bool b, .slice p n c, .slice q m e]) (h0 : w.cell? ⟨g, 0, none⟩ = some x) (h1 : w.cell? ⟨g, 1, none⟩ = some y) (h2 : w.cell? ⟨g, 2, none⟩ = some z) (h3 : w.cell? ⟨g, 3, none⟩ = some v)
    (f0 : w.frozen? ⟨g, 0, none⟩ = false) (f1 : w.frozen? ⟨g, 1, none⟩ = false) (f2 : w.frozen? ⟨g, 2, none⟩ = false) (f3 : w.frozen? ⟨g, 3, none⟩ = false) :
    Sem.run Try.prog (execOp a.eval ⟨d, .store 80 (.tmp t) (.tmp u), ty, pos, es, none⟩) w = .ok .skip ((((w.setCell ⟨g, 0, none⟩ (.slice r i j)).setCell ⟨g, 1, none⟩ (.bool b)).setCell ⟨g, 2, none⟩ (.slice p n c)).setCell ⟨g, 3, none⟩ (.slice q m e)) := by
  go_simp
theorem e_store80 {ops : Array Oper} {Q : Exit → Act → World → Prop} {K : Act → World → Prop} {m0 t u B g : Nat} {a : Act} {w : World} {ty : TypeId} {pos : String} {es : Array Edge} {x y z v : Value} {b : Bool} {r p q : Option Addr} {i j n c m e : Nat}
    (ho : ops[m0]? = some ⟨none, .store 80 (.tmp t) (.tmp u), ty, pos, es, none⟩) (ht : a.tmps.getD t undef = .pointer (some ⟨g, 0, none⟩)) (hb : BoxV w B g 80 [x, y, z, v]) (hu : a.tmps.getD u undef = .agg #[.slice r i j, .bool b, .slice p n c, .slice q m e])
    (h : K a ((((w.setCell ⟨g, 0, none⟩ (.slice r i j)).setCell ⟨g, 1, none⟩ (.bool b)).setCell ⟨g, 2, none⟩ (.slice p n c)).setCell ⟨g, 3, none⟩ (.slice q m e))) :
    wpOp Try.prog ops Q m0 K a w := by
  unfold wpOp
  rw [ho]
  simp only [Region.wanted, if_true]
  left
  unfold Oper.wp
  rw [run_store80 a none ty pos es w t u g b r p q i j n c m e x y z v ht hu (hb.cell 0 (by simp)) (hb.cell 1 (by simp)) (hb.cell 2 (by simp)) (hb.cell 3 (by simp)) (hb.frozen 0) (hb.frozen 1) (hb.frozen 2) (hb.frozen 3), Oper.upon_skip]
  exact h
theorem grown_set80 (w : World) (g : Nat) (x y z v : Value) : w.grownBy ((((w.setCell ⟨g, 0, none⟩ x).setCell ⟨g, 1, none⟩ y).setCell ⟨g, 2, none⟩ z).setCell ⟨g, 3, none⟩ v) (some g) :=
  grown_setCell (grown_setCell (grown_setCell (grown_setCell (World.grownBy.refl _ _) _) _) _) _
theorem noLimb_zero80 : NoLimb [.slice none 0 0, .bool false, .slice none 0 0, .slice none 0 0] := fun x hx k => by
  simp at hx
  rcases hx with rfl | rfl | rfl <;> simp
theorem LstI.other80 {B g k q : Nat} {f : Nat → Rat} {w2 w3 : World} {B2 g2 : Nat} (h : LstI B g k f q w2) (hB : BoxV w2 B2 g2 80 [.slice none 0 0, .bool false, .slice none 0 0, .slice none 0 0]) (hg : g ≠ g2) (hgr : w2.grownBy w3 (some g2)) : LstI B g k f q w3 := by
  obtain ⟨xs, h1, h2, h3, h4⟩ := h
  refine ⟨xs, h1.kept hgr (by simpa using hg), h2, h3, fun j hj => ?_⟩
  obtain ⟨a, b, c, e1, e2, e3, hr⟩ := h4 j hj
  exact ⟨a, b, c, e1, e2, e3, hr.other hB noLimb_zero80 hgr⟩

end Go.Proofs.Ytdpiclmjdcjajaa

/-
  The walk of productRow for every two numbers whose sum is at most 32.
-/
namespace Go.Proofs.Ytdpiclmjdcjajaa
open Go.RowKit Num

theorem prow_small2 {a b k j : Nat} (h : a + b ≤ 32) (hj : j ≤ 32) : prow a b k j ≤ 1000000000000000000 := by
  unfold prow
  split
  · exact Nat.le_trans (Nat.mul_le_mul (pas_small (by omega) (by omega)) (pas_small (by omega) (by omega))) (by decide)
  · omega

set_option maxRecDepth 100000 in
set_option maxHeartbeats 8000000 in
theorem productRow_all (a b : Nat) (hsum : a + b ≤ 32) (w : World) : Calls Try.prog 66 #[.int .i64 a, .int .i64 b] w (RowP (prow a b (a + b + 1)) w) := by
  have hS : RowB ((w.alloc (.cells (rowA z0) 74)).alloc (.cells (rowA z0) 74)) w.heap.size w.heap.size z0 := World.ownsRow.alloc (RowB.new w w.heap.size (Nat.le_refl _) z0) _
  have hR : RowB ((w.alloc (.cells (rowA z0) 74)).alloc (.cells (rowA z0) 74)) w.heap.size (w.heap.size + 1) z0 := by
    have := RowB.new (w.alloc (.cells (rowA z0) 74)) w.heap.size (by simp) z0
    simpa using this
  have hbw : Below w.heap.size w ((w.alloc (.cells (rowA z0) 74)).alloc (.cells (rowA z0) 74)) := ((Below.refl _ w).alloc (Nat.le_refl _) _).alloc (by simp) _
  have HA := Lib.hid (And.intro hR (And.intro hS hbw))
  clear hS hR hbw
  go_enter Try.func66, Try.ntmps66
  go_wp2_with fail
  refine (pascalRow_any a (by omega) _).mono ?_
  rintro e w1 ⟨rfl, hb1⟩
  have hR1 := HA.out.1.below hb1
  have hS1 := HA.out.2.1.below hb1
  have hbw1 := below_next' HA.out.2.2 hb1
  have hT := RowB.new w1 w1.heap.size (Nat.le_refl _) z0
  have hT2 := hT.setRow (pas a)
  have hba := below_alloc1 w1 (.cells (rowA z0) 74)
  have hR2 := (hR1.below hba).kept hT2.2 (by have := hR1.block.2; simp; omega)
  have hS2 := (hS1.below hba).kept hT2.2 (by have := hS1.block.2; simp; omega)
  have hbw2 : Below w.heap.size w ((w1.alloc (.cells (rowA z0) 74)).setRow w1.heap.size (rowA (pas a))) := (below_next' hbw1 hba).grown hT2.2 (below_next' hbw1 hba).size (fun k hk => by cases hk; exact hbw1.size)
  have hh := hT.heap
  have hlt1 : w.heap.size + 1 < w1.heap.size := hR1.block.2
  have H1 := Lib.hid (And.intro hR2 (And.intro hS2 (And.intro hT2.1 (And.intro hbw2 hlt1))))
  clear hR1 hS1 hbw1 hT hT2 hba hR2 hS2 hbw2 hb1 hlt1
  by_cases hab : a < b
  · have hmi : a < b := by omega
    clear hab
    go_wp2_with (refine wpList_store_row rfl 74 _ _ rfl w1.heap.size (rowA (pas a)) rfl rfl 74 (rowA z0) hh (by rw [rowA_size]; exact Try.size74) (by rw [rowA_size, rowA_size]) (rowA_one _) ?_)
    go_loopw [7] (fun x wr => ∃ k : Nat, a ≤ k ∧ b ≤ k ∧ k ≤ a + b + 1 ∧ x = .int .i64 k ∧ RowB wr w.heap.size (w.heap.size + 1) (prow a b k) ∧ RowB wr w.heap.size w.heap.size z0 ∧ RowB wr w1.heap.size w1.heap.size (pas a) ∧ Below w.heap.size w wr) (fun x _ => a + b + 1 - (intOf x).toNat)
    case atStart => exact ⟨b, by omega, by omega, by omega, rfl, H1.out.1.congr (prow_start (by omega)), H1.out.2.1, H1.out.2.2.1, H1.out.2.2.2.1⟩
    case round =>
      obtain ⟨k, hka, hkb, hk, rfl, hR, hS, hT, hbel⟩ := hrel
      by_cases hlt : k ≤ a + b
      · have hil : (k : Int) ≤ (a : Int) + (b : Int) := by omega
        obtain ⟨p, hp⟩ : ∃ p, pas k a = p := ⟨_, rfl⟩
        obtain ⟨q, hq⟩ : ∃ q, pas a (k - b) = q := ⟨_, rfl⟩
        have hps : p ≤ 1000000000 := by rw [← hp]; exact pas_small (by omega) (by omega)
        have hqs : q ≤ 1000000000 := by rw [← hq]; exact pas_small (by omega) (by omega)
        have hpq : p * q ≤ 1000000000000000000 := Nat.le_trans (Nat.mul_le_mul hps hqs) (by decide)
        have HQ := Lib.hid (And.intro hp (And.intro hq (And.intro hpq (And.intro hR (And.intro hS (And.intro hT hbel))))))
        clear hp hq hps hqs hpq hR hS hT hbel
        go_wp2_with fail
        refine region_flow_tail (Fe (prK a b k (w.heap.size + 1) w1.heap.size p q)) (by rfl) (Fe.mono _) 33 12 [] (by rfl) (by kernel_rfl) (by kernel_rfl) (by kernel_rfl) (by kernel_rfl) (fun t ht => by cases ht) [0, 1, 5, 6, 7] (by kernel_rfl) ?g0 (Fe.draw _) ?gs ?gf
        case g0 =>
          intro t ht
          simp only [List.mem_cons, List.not_mem_nil, or_false] at ht
          rcases ht with rfl | rfl | rfl | rfl | rfl
          · rfl
          · rfl
          · rfl
          · exact ⟨rfl, fun j hj => HQ.out.2.2.2.2.2.1.cell hj⟩
          · rfl
        case gs =>
          exact ⟨flowN_of (e_move rfl) (by decide), flowN_of (e_move rfl) (by decide), flowN_of (e_pascal rfl rfl (by omega)) (by decide), flowN_of (e_move rfl) (by decide), flowN_of (e_idx rfl rfl rfl HQ.out.1 (by omega)) (by decide), flowN_of (e_move rfl) (by decide), flowN_of (e_move rfl) (by decide),
            flowN_of (e_sub3 rfl rfl rfl (by omega) (by omega) (by omega)) (by decide), flowN_of (e_idxA rfl rfl rfl HQ.out.2.1 (by omega)) (by decide), flowN_of (e_load2 rfl rfl) (by decide), flowN_of (e_mul2i rfl rfl rfl (by rw [Int.natCast_mul]) (by omega) (by have := HQ.out.2.2.1; omega)) (by decide), flowN_of (e_idxP rfl rfl rfl (by omega)) (by decide), trivial⟩
        case gf =>
          intro a3 w3 hb3 hsz3 hdf3 hfacts hout _
          have f30 : a3.tmps.getD 30 undef = .int .i64 ((p * q : Nat) : Int) := hfacts 10 30 (by decide) rfl
          have f31 : a3.tmps.getD 31 undef = .pointer (some ⟨w.heap.size + 1, k, none⟩) := hfacts 11 31 (by decide) rfl
          have hR3 := HQ.out.2.2.2.1.below hb3
          have e0 : a3.tmps.getD 0 undef = .int .i64 a := hout 0 (free_of (by kernel_rfl))
          have e1 : a3.tmps.getD 1 undef = .int .i64 b := hout 1 (free_of (by kernel_rfl))
          have e2 : a3.tmps.getD 2 undef = undef := hout 2 (free_of (by kernel_rfl))
          have e3 : a3.tmps.getD 3 undef = undef := hout 3 (free_of (by kernel_rfl))
          have e4 : a3.tmps.getD 4 undef = .pointer (some ⟨w.heap.size, 0, none⟩) := hout 4 (free_of (by kernel_rfl))
          have e5 : a3.tmps.getD 5 undef = .pointer (some ⟨w.heap.size + 1, 0, none⟩) := hout 5 (free_of (by kernel_rfl))
          have e6 : a3.tmps.getD 6 undef = .pointer (some ⟨w1.heap.size, 0, none⟩) := hout 6 (free_of (by kernel_rfl))
          have e7 : a3.tmps.getD 7 undef = .int .i64 k := hout 7 (free_of (by kernel_rfl))
          have e8 : a3.tmps.getD 8 undef = .int .i64 a := hout 8 (free_of (by kernel_rfl))
          have e9 : a3.tmps.getD 9 undef = .agg (rowA (pas a)) := hout 9 (free_of (by kernel_rfl))
          have e10 : a3.tmps.getD 10 undef = .int .i64 a := hout 10 (free_of (by kernel_rfl))
          have e11 : a3.tmps.getD 11 undef = .int .i64 b := hout 11 (free_of (by kernel_rfl))
          have e12 : a3.tmps.getD 12 undef = .int .i64 b := hout 12 (free_of (by kernel_rfl))
          have e32 : a3.tmps.getD 32 undef = undef := hout 32 (free_of (by kernel_rfl))
          have hszn : a3.tmps.size = 33 := hsz3
          have hdfn : a3.defers = [] := hdf3
          change runFrom _ _ _ 1 12 a3 w3
          simp only [runFrom]
          refine tail_store2 rfl f31 f30 (hR3.cell (j := k) (by omega)) (hR3.frozen k) ?_
          have hst := (World.ownsRow.stored hR3 k (.int .i64 ((p * q : Nat) : Int))).2
          have hN := (hR3.store (j := k) (p * q) (by omega))
          have HN := Lib.hid (And.intro (hN.congr (show ∀ j, j < 33 → upd (prow a b k) k (p * q) j = prow a b (k + 1) j by rw [← HQ.out.1, ← HQ.out.2.1]; exact prow_next hka hkb)) (And.intro ((HQ.out.2.2.2.2.1.below hb3).kept hst (by simp)) (And.intro ((HQ.out.2.2.2.2.2.1.below hb3).kept hst (by have := H1.out.2.2.2.2; simp; omega)) ((below_next' HQ.out.2.2.2.2.2.2 hb3).setCell (p := ⟨w.heap.size + 1, k, none⟩) (by simp) (.int .i64 ((p * q : Nat) : Int))))))
          generalize w3.setCell ⟨w.heap.size + 1, k, none⟩ (.int .i64 ((p * q : Nat) : Int)) = w4 at HN ⊢
          obtain ⟨uu, hu⟩ : ∃ u : Nat → Value, ∀ t, a3.tmps.getD t undef = u t := ⟨_, fun _ => rfl⟩
          have ha3 := act_eq a3 33 hszn hdfn
          simp only [hu] at ha3 e0 e1 e2 e3 e4 e5 e6 e7 e8 e9 e10 e11 e12 e32
          have ha' : a3 = ⟨#[uu 0, uu 1, uu 2, uu 3, uu 4, uu 5, uu 6, uu 7, uu 8, uu 9, uu 10, uu 11, uu 12, uu 13, uu 14, uu 15, uu 16, uu 17, uu 18, uu 19, uu 20, uu 21, uu 22, uu 23, uu 24, uu 25, uu 26, uu 27, uu 28, uu 29, uu 30, uu 31, uu 32], []⟩ := ha3
          rw [e0, e1, e2, e3, e4, e5, e6, e7, e8, e9, e10, e11, e12, e32] at ha'
          clear ha3 hu e0 e1 e2 e3 e4 e5 e6 e7 e8 e9 e10 e11 e12 e32 hfacts hout hszn hdfn hsz3 hdf3 f30 f31 hR3 hb3 hst hN
          subst ha'
          go_wp2
          go_roundw
          case rel => exact ⟨k + 1, by omega, by omega, by omega, by go_num, HN.out⟩
          case measure => simp [intOf]; omega
      · obtain rfl : k = a + b + 1 := by omega
        have hh5 := hR.heap
        have hh4 := hS.heap
        have hS5 := hS.setRow (prow a b (a + b + 1))
        have HF := Lib.hid (And.intro hS5 (And.intro hbel hS))
        clear hR hS hT hbel hS5
        go_wp2_with (first
          | refine wpList_load_row rfl 74 _ rfl (w.heap.size + 1) rfl 74 (rowA (prow a b (a + b + 1))) (0, 0) _ hh5 Try.underlying74 rfl (by rw [rowA_size]; exact Try.size74) ?_
          | refine wpList_store_row rfl 74 _ _ rfl w.heap.size (rowA (prow a b (a + b + 1))) rfl rfl 74 (rowA z0) hh4 (by rw [rowA_size]; exact Try.size74) (by rw [rowA_size, rowA_size]) (rowA_one _) ?_)
        exact bodyPost_ret (v := .agg (rowA (prow a b (a + b + 1)))) (results_cell_row (P := Try.prog) Try.results66 _ _ w.heap.size 74 (rowA (prow a b (a + b + 1))) (0, 0) _ rfl HF.out.1.1.heap Try.underlying74 rfl (by rw [rowA_size]; exact Try.size74)) rfl
          ⟨rfl, HF.out.2.1.grown HF.out.1.2 HF.out.2.1.size (fun k hk => by cases hk; exact Nat.le_refl _)⟩
  · have hmi : ¬ a < b := by omega
    clear hab
    go_wp2_with (refine wpList_store_row rfl 74 _ _ rfl w1.heap.size (rowA (pas a)) rfl rfl 74 (rowA z0) hh (by rw [rowA_size]; exact Try.size74) (by rw [rowA_size, rowA_size]) (rowA_one _) ?_)
    go_loopw [7] (fun x wr => ∃ k : Nat, a ≤ k ∧ b ≤ k ∧ k ≤ a + b + 1 ∧ x = .int .i64 k ∧ RowB wr w.heap.size (w.heap.size + 1) (prow a b k) ∧ RowB wr w.heap.size w.heap.size z0 ∧ RowB wr w1.heap.size w1.heap.size (pas a) ∧ Below w.heap.size w wr) (fun x _ => a + b + 1 - (intOf x).toNat)
    case atStart => exact ⟨a, by omega, by omega, by omega, rfl, H1.out.1.congr (prow_start (by omega)), H1.out.2.1, H1.out.2.2.1, H1.out.2.2.2.1⟩
    case round =>
      obtain ⟨k, hka, hkb, hk, rfl, hR, hS, hT, hbel⟩ := hrel
      by_cases hlt : k ≤ a + b
      · have hil : (k : Int) ≤ (a : Int) + (b : Int) := by omega
        obtain ⟨p, hp⟩ : ∃ p, pas k a = p := ⟨_, rfl⟩
        obtain ⟨q, hq⟩ : ∃ q, pas a (k - b) = q := ⟨_, rfl⟩
        have hps : p ≤ 1000000000 := by rw [← hp]; exact pas_small (by omega) (by omega)
        have hqs : q ≤ 1000000000 := by rw [← hq]; exact pas_small (by omega) (by omega)
        have hpq : p * q ≤ 1000000000000000000 := Nat.le_trans (Nat.mul_le_mul hps hqs) (by decide)
        have HQ := Lib.hid (And.intro hp (And.intro hq (And.intro hpq (And.intro hR (And.intro hS (And.intro hT hbel))))))
        clear hp hq hps hqs hpq hR hS hT hbel
        go_wp2_with fail
        refine region_flow_tail (Fe (prK a b k (w.heap.size + 1) w1.heap.size p q)) (by rfl) (Fe.mono _) 33 12 [] (by rfl) (by kernel_rfl) (by kernel_rfl) (by kernel_rfl) (by kernel_rfl) (fun t ht => by cases ht) [0, 1, 5, 6, 7] (by kernel_rfl) ?g0 (Fe.draw _) ?gs ?gf
        case g0 =>
          intro t ht
          simp only [List.mem_cons, List.not_mem_nil, or_false] at ht
          rcases ht with rfl | rfl | rfl | rfl | rfl
          · rfl
          · rfl
          · rfl
          · exact ⟨rfl, fun j hj => HQ.out.2.2.2.2.2.1.cell hj⟩
          · rfl
        case gs =>
          exact ⟨flowN_of (e_move rfl) (by decide), flowN_of (e_move rfl) (by decide), flowN_of (e_pascal rfl rfl (by omega)) (by decide), flowN_of (e_move rfl) (by decide), flowN_of (e_idx rfl rfl rfl HQ.out.1 (by omega)) (by decide), flowN_of (e_move rfl) (by decide), flowN_of (e_move rfl) (by decide),
            flowN_of (e_sub3 rfl rfl rfl (by omega) (by omega) (by omega)) (by decide), flowN_of (e_idxA rfl rfl rfl HQ.out.2.1 (by omega)) (by decide), flowN_of (e_load2 rfl rfl) (by decide), flowN_of (e_mul2i rfl rfl rfl (by rw [Int.natCast_mul]) (by omega) (by have := HQ.out.2.2.1; omega)) (by decide), flowN_of (e_idxP rfl rfl rfl (by omega)) (by decide), trivial⟩
        case gf =>
          intro a3 w3 hb3 hsz3 hdf3 hfacts hout _
          have f30 : a3.tmps.getD 30 undef = .int .i64 ((p * q : Nat) : Int) := hfacts 10 30 (by decide) rfl
          have f31 : a3.tmps.getD 31 undef = .pointer (some ⟨w.heap.size + 1, k, none⟩) := hfacts 11 31 (by decide) rfl
          have hR3 := HQ.out.2.2.2.1.below hb3
          have e0 : a3.tmps.getD 0 undef = .int .i64 a := hout 0 (free_of (by kernel_rfl))
          have e1 : a3.tmps.getD 1 undef = .int .i64 b := hout 1 (free_of (by kernel_rfl))
          have e2 : a3.tmps.getD 2 undef = undef := hout 2 (free_of (by kernel_rfl))
          have e3 : a3.tmps.getD 3 undef = undef := hout 3 (free_of (by kernel_rfl))
          have e4 : a3.tmps.getD 4 undef = .pointer (some ⟨w.heap.size, 0, none⟩) := hout 4 (free_of (by kernel_rfl))
          have e5 : a3.tmps.getD 5 undef = .pointer (some ⟨w.heap.size + 1, 0, none⟩) := hout 5 (free_of (by kernel_rfl))
          have e6 : a3.tmps.getD 6 undef = .pointer (some ⟨w1.heap.size, 0, none⟩) := hout 6 (free_of (by kernel_rfl))
          have e7 : a3.tmps.getD 7 undef = .int .i64 k := hout 7 (free_of (by kernel_rfl))
          have e8 : a3.tmps.getD 8 undef = .int .i64 a := hout 8 (free_of (by kernel_rfl))
          have e9 : a3.tmps.getD 9 undef = .agg (rowA (pas a)) := hout 9 (free_of (by kernel_rfl))
          have e10 : a3.tmps.getD 10 undef = .int .i64 a := hout 10 (free_of (by kernel_rfl))
          have e11 : a3.tmps.getD 11 undef = .int .i64 b := hout 11 (free_of (by kernel_rfl))
          have e12 : a3.tmps.getD 12 undef = .int .i64 a := hout 12 (free_of (by kernel_rfl))
          have e32 : a3.tmps.getD 32 undef = undef := hout 32 (free_of (by kernel_rfl))
          have hszn : a3.tmps.size = 33 := hsz3
          have hdfn : a3.defers = [] := hdf3
          change runFrom _ _ _ 1 12 a3 w3
          simp only [runFrom]
          refine tail_store2 rfl f31 f30 (hR3.cell (j := k) (by omega)) (hR3.frozen k) ?_
          have hst := (World.ownsRow.stored hR3 k (.int .i64 ((p * q : Nat) : Int))).2
          have hN := (hR3.store (j := k) (p * q) (by omega))
          have HN := Lib.hid (And.intro (hN.congr (show ∀ j, j < 33 → upd (prow a b k) k (p * q) j = prow a b (k + 1) j by rw [← HQ.out.1, ← HQ.out.2.1]; exact prow_next hka hkb)) (And.intro ((HQ.out.2.2.2.2.1.below hb3).kept hst (by simp)) (And.intro ((HQ.out.2.2.2.2.2.1.below hb3).kept hst (by have := H1.out.2.2.2.2; simp; omega)) ((below_next' HQ.out.2.2.2.2.2.2 hb3).setCell (p := ⟨w.heap.size + 1, k, none⟩) (by simp) (.int .i64 ((p * q : Nat) : Int))))))
          generalize w3.setCell ⟨w.heap.size + 1, k, none⟩ (.int .i64 ((p * q : Nat) : Int)) = w4 at HN ⊢
          obtain ⟨uu, hu⟩ : ∃ u : Nat → Value, ∀ t, a3.tmps.getD t undef = u t := ⟨_, fun _ => rfl⟩
          have ha3 := act_eq a3 33 hszn hdfn
          simp only [hu] at ha3 e0 e1 e2 e3 e4 e5 e6 e7 e8 e9 e10 e11 e12 e32
          have ha' : a3 = ⟨#[uu 0, uu 1, uu 2, uu 3, uu 4, uu 5, uu 6, uu 7, uu 8, uu 9, uu 10, uu 11, uu 12, uu 13, uu 14, uu 15, uu 16, uu 17, uu 18, uu 19, uu 20, uu 21, uu 22, uu 23, uu 24, uu 25, uu 26, uu 27, uu 28, uu 29, uu 30, uu 31, uu 32], []⟩ := ha3
          rw [e0, e1, e2, e3, e4, e5, e6, e7, e8, e9, e10, e11, e12, e32] at ha'
          clear ha3 hu e0 e1 e2 e3 e4 e5 e6 e7 e8 e9 e10 e11 e12 e32 hfacts hout hszn hdfn hsz3 hdf3 f30 f31 hR3 hb3 hst hN
          subst ha'
          go_wp2
          go_roundw
          case rel => exact ⟨k + 1, by omega, by omega, by omega, by go_num, HN.out⟩
          case measure => simp [intOf]; omega
      · obtain rfl : k = a + b + 1 := by omega
        have hh5 := hR.heap
        have hh4 := hS.heap
        have hS5 := hS.setRow (prow a b (a + b + 1))
        have HF := Lib.hid (And.intro hS5 (And.intro hbel hS))
        clear hR hS hT hbel hS5
        go_wp2_with (first
          | refine wpList_load_row rfl 74 _ rfl (w.heap.size + 1) rfl 74 (rowA (prow a b (a + b + 1))) (0, 0) _ hh5 Try.underlying74 rfl (by rw [rowA_size]; exact Try.size74) ?_
          | refine wpList_store_row rfl 74 _ _ rfl w.heap.size (rowA (prow a b (a + b + 1))) rfl rfl 74 (rowA z0) hh4 (by rw [rowA_size]; exact Try.size74) (by rw [rowA_size, rowA_size]) (rowA_one _) ?_)
        exact bodyPost_ret (v := .agg (rowA (prow a b (a + b + 1)))) (results_cell_row (P := Try.prog) Try.results66 _ _ w.heap.size 74 (rowA (prow a b (a + b + 1))) (0, 0) _ rfl HF.out.1.1.heap Try.underlying74 rfl (by rw [rowA_size]; exact Try.size74)) rfl
          ⟨rfl, HF.out.2.1.grown HF.out.1.2 HF.out.2.1.size (fun k hk => by cases hk; exact Nat.le_refl _)⟩
end Go.Proofs.Ytdpiclmjdcjajaa

/-
  Products of two lists in the binomial basis, and their coefficients as differences of values. Condition: degrees whose sum is at most 32.
-/
namespace Go.Proofs.Ytdpiclmjdcjajaa
open Go.RowKit Num

theorem pc_all32 : (List.range 32).all (fun a => (List.range 32).all fun b => decide (32 < a + b + 2) || (List.range 33).all fun i => decide (pc (a + 1) (b + 1) (i + 1) = pc a b i + pc a (b + 1) i + pc (a + 1) b i)) = true := by decide +kernel
theorem pc_zero_all32 : (List.range 33).all (fun b => (List.range 33).all fun i => decide (pc 0 b i = if i = b then 1 else 0) && decide (pc b 0 i = if i = b then 1 else 0)) = true := by decide +kernel
theorem pc_step32 {a b i : Nat} (h : a + b + 2 ≤ 32) (hi : i < 33) : pc (a + 1) (b + 1) (i + 1) = pc a b i + pc a (b + 1) i + pc (a + 1) b i := by
  have h1 := List.all_eq_true.1 pc_all32 a (by simp; omega)
  have h1 := List.all_eq_true.1 h1 b (by simp; omega)
  rw [decide_eq_false (by omega), Bool.false_or] at h1
  have h1 := List.all_eq_true.1 h1 i (by simp; omega)
  exact of_decide_eq_true h1
theorem pc_zero32 {b i : Nat} (hb : b ≤ 32) (hi : i < 33) : pc 0 b i = (if i = b then 1 else 0) ∧ pc b 0 i = (if i = b then 1 else 0) := by
  have h := List.all_eq_true.1 pc_zero_all32 b (by simp; omega)
  have h := List.all_eq_true.1 h i (by simp; omega)
  rw [Bool.and_eq_true] at h
  exact ⟨of_decide_eq_true h.1, of_decide_eq_true h.2⟩

theorem pc_identity32 (n : Nat) : ∀ a b, a + b ≤ 32 → chQ (n : Int) a * chQ (n : Int) b = sumN (fun i => ((pc a b i : Nat) : Rat) * chQ (n : Int) i) 33 := by
  have hz : ∀ n : Nat, ∀ b, b ≤ 32 → chQ (n : Int) b = sumN (fun i => ((pc 0 b i : Nat) : Rat) * chQ (n : Int) i) 33 ∧ chQ (n : Int) b = sumN (fun i => ((pc b 0 i : Nat) : Rat) * chQ (n : Int) i) 33 := by
    intro n b hb
    have h := sumN_one (fun i => chQ (n : Int) i) b 33
    rw [if_pos (by omega)] at h
    constructor
    · rw [← h]; exact sumN_congr 33 fun i hi => by rw [(pc_zero32 hb hi).1]
    · rw [← h]; exact sumN_congr 33 fun i hi => by rw [(pc_zero32 hb hi).2]
  induction n with
  | zero =>
    intro a b hab
    match a, b with
    | 0, b => rw [ch_zero, ← (hz 0 b (by omega)).1]; grind
    | a + 1, 0 => rw [ch_zero, ← (hz 0 (a + 1) (by omega)).2]; grind
    | a + 1, b + 1 =>
      rw [show ((0 : Nat) : Int) = 0 from rfl, ch_none, sumN_zero 33 fun i hi => ?_]
      · grind
      · match i with
        | 0 => rw [pc_none (by omega)]; exact Rat.zero_mul _
        | i + 1 => rw [ch_none]; grind
  | succ n ih =>
    intro a b hab
    match a, b with
    | 0, b => rw [ch_zero, ← (hz (n + 1) b (by omega)).1]; grind
    | a + 1, 0 => rw [ch_zero, ← (hz (n + 1) (a + 1) (by omega)).2]; grind
    | a + 1, b + 1 =>
      have e : ((n + 1 : Nat) : Int) = (n : Int) + 1 := by omega
      have h1 := ih a b (by omega)
      have h2 := ih a (b + 1) (by omega)
      have h3 := ih (a + 1) b (by omega)
      have h4 := ih (a + 1) (b + 1) hab
      have hs := sumN_shift (C := fun k => chQ (n : Int) k) (D := fun k => chQ ((n : Int) + 1) k) ((ch_zero _).trans (ch_zero _).symm) (fun k => ch_pascal (Int.natCast_nonneg n) k) (fun i => ((pc (a + 1) (b + 1) i : Nat) : Rat)) 32
      have h17 : sumN (fun i => ((pc (a + 1) (b + 1) (i + 1) : Nat) : Rat) * chQ (n : Int) i) 32 = sumN (fun i => ((pc (a + 1) (b + 1) (i + 1) : Nat) : Rat) * chQ (n : Int) i) 33 := by
        have e0 : ((pc (a + 1) (b + 1) (32 + 1) : Nat) : Rat) * chQ (n : Int) 32 = 0 := by rw [pc_none (by omega)]; exact Rat.zero_mul _
        show _ = sumN _ 32 + ((pc (a + 1) (b + 1) (32 + 1) : Nat) : Rat) * chQ (n : Int) 32
        rw [e0]
        exact (Rat.add_zero _).symm
      have hsum : sumN (fun i => ((pc (a + 1) (b + 1) (i + 1) : Nat) : Rat) * chQ (n : Int) i) 33 = sumN (fun i => ((pc a b i : Nat) : Rat) * chQ (n : Int) i) 33 + sumN (fun i => ((pc a (b + 1) i : Nat) : Rat) * chQ (n : Int) i) 33 + sumN (fun i => ((pc (a + 1) b i : Nat) : Rat) * chQ (n : Int) i) 33 := by
        rw [← sumN_add, ← sumN_add]
        refine sumN_congr 33 fun i hi => ?_
        rw [pc_step32 (by omega) hi]
        push_cast
        grind
      have hs' : sumN (fun i => ((pc (a + 1) (b + 1) i : Nat) : Rat) * chQ ((n : Int) + 1) i) 33 = _ := hs
      rw [e, hs', h17, hsum, ← h1, ← h2, ← h3, ← h4, ch_pascal (by omega), ch_pascal (by omega)]
      grind

/-- The value of the first m coefficients at n. -/
def ev (c : Nat → Rat) (m n : Nat) : Rat := sumN (fun j => c j * chQ (n : Int) j) m
/-- The difference of a list of values. -/
def dif (v : Nat → Rat) : Nat → Rat := fun n => v (n + 1) - v n
def difs (v : Nat → Rat) : Nat → Nat → Rat
  | 0 => v
  | k + 1 => difs (dif v) k
theorem dif_ev (c : Nat → Rat) (m : Nat) : dif (ev c (m + 1)) = ev (fun i => c (i + 1)) m := by
  funext n
  unfold dif ev
  have e : ((n + 1 : Nat) : Int) = (n : Int) + 1 := by omega
  have hs := sumN_shift (C := fun k => chQ (n : Int) k) (D := fun k => chQ ((n : Int) + 1) k) ((ch_zero _).trans (ch_zero _).symm) (fun k => ch_pascal (Int.natCast_nonneg n) k) c m
  rw [e]
  have hs' : sumN (fun j => c j * chQ ((n : Int) + 1) j) (m + 1) = _ := hs
  rw [hs']
  grind
theorem dif_ev0 (c : Nat → Rat) : dif (ev c 0) = ev c 0 := by
  funext n
  show (0 : Rat) - 0 = 0
  grind
theorem ev_at0 (c : Nat → Rat) : ∀ m, ev c (m + 1) 0 = c 0
  | 0 => by
    show (0 : Rat) + c 0 * chQ 0 0 = c 0
    rw [ch_zero]
    grind
  | m + 1 => by
    have h := ev_at0 c m
    show ev c (m + 1) 0 + c (m + 1) * chQ 0 (m + 1) = c 0
    rw [h, ch_none]
    grind
/-- The coefficients are the differences of the values at 0. -/
theorem difs_ev : ∀ (k m : Nat) (c : Nat → Rat), difs (ev c m) k 0 = if k < m then c k else 0
  | 0, 0, c => rfl
  | 0, m + 1, c => by rw [if_pos (by omega)]; exact ev_at0 c m
  | k + 1, 0, c => by
    show difs (dif (ev c 0)) k 0 = _
    rw [dif_ev0, difs_ev k 0 c, if_neg (by omega), if_neg (by omega)]
  | k + 1, m + 1, c => by
    show difs (dif (ev c (m + 1))) k 0 = _
    rw [dif_ev, difs_ev k m]
    by_cases h : k < m
    · rw [if_pos h, if_pos (by omega)]
    · rw [if_neg h, if_neg (by omega)]
end Go.Proofs.Ytdpiclmjdcjajaa

/-
  The product of two lists in the binomial basis. Condition: at most 34 numbers together.
-/
namespace Go.Proofs.Ytdpiclmjdcjajaa
open Go.RowKit Num

theorem sumN_mulL (c : Rat) (f : Nat → Rat) : ∀ m, c * sumN f m = sumN (fun i => c * f i) m
  | 0 => by show c * 0 = 0; grind
  | m + 1 => by
    show c * (sumN f m + f m) = sumN (fun i => c * f i) m + c * f m
    rw [← sumN_mulL c f m]
    grind
theorem sumN_mulR (c : Rat) (f : Nat → Rat) (m : Nat) : sumN f m * c = sumN (fun i => f i * c) m := by
  rw [Rat.mul_comm, sumN_mulL]
  exact sumN_congr m fun i _ => Rat.mul_comm _ _
theorem sumN_swap (F : Nat → Nat → Rat) (m : Nat) : ∀ n, sumN (fun a => sumN (fun i => F a i) m) n = sumN (fun i => sumN (fun a => F a i) n) m
  | 0 => (sumN_zero m fun _ _ => rfl).symm
  | n + 1 => by
    show sumN (fun a => sumN (fun i => F a i) m) n + sumN (fun i => F n i) m = sumN (fun i => sumN (fun a => F a i) n + F n i) m
    rw [sumN_swap F m n, sumN_add]

/-- The coefficients of the product. -/
def mulC (n1 n2 : Nat) (f g : Nat → Rat) (k : Nat) : Rat := sumN (fun a => sumN (fun b => f a * g b * ((pc a b k : Nat) : Rat)) n2) n1
theorem mulC_none {n1 n2 k : Nat} {f g : Nat → Rat} (h : n1 + n2 ≤ k + 1) : mulC n1 n2 f g k = 0 := by
  unfold mulC
  refine sumN_zero n1 fun a ha => sumN_zero n2 fun b hb => ?_
  rw [pc_none (by omega)]
  exact Rat.mul_zero _
theorem mul_ev (n1 n2 : Nat) (f g : Nat → Rat) (h : n1 + n2 ≤ 34) (n : Nat) : ev f n1 n * ev g n2 n = ev (mulC n1 n2 f g) 33 n := by
  unfold ev
  rw [sumN_mulR]
  have e1 : sumN (fun i => f i * chQ (n : Int) i * sumN (fun j => g j * chQ (n : Int) j) n2) n1 = sumN (fun a => sumN (fun i => sumN (fun b => f a * g b * ((pc a b i : Nat) : Rat)) n2 * chQ (n : Int) i) 33) n1 := by
    refine sumN_congr n1 fun a ha => ?_
    rw [sumN_mulL]
    have e2 : sumN (fun i => f a * chQ (n : Int) a * (g i * chQ (n : Int) i)) n2 = sumN (fun b => sumN (fun i => f a * g b * ((pc a b i : Nat) : Rat) * chQ (n : Int) i) 33) n2 := by
      refine sumN_congr n2 fun b hb => ?_
      have h1 := pc_identity32 n a b (by omega)
      have e3 : f a * chQ (n : Int) a * (g b * chQ (n : Int) b) = f a * g b * (chQ (n : Int) a * chQ (n : Int) b) := by grind
      rw [e3, h1, sumN_mulL]
      exact sumN_congr 33 fun i _ => by grind
    rw [e2, sumN_swap]
    exact sumN_congr 33 fun i _ => (sumN_mulR _ _ _).symm
  rw [e1, sumN_swap]
  refine sumN_congr 33 fun i _ => ?_
  rw [← sumN_mulR]
  rfl
/-- The product's coefficients are the differences of the products of values. -/
theorem mul_difs (n1 n2 : Nat) (f g : Nat → Rat) (h : n1 + n2 ≤ 34) (k : Nat) (hk : k < 33) : difs (fun n => ev f n1 n * ev g n2 n) k 0 = mulC n1 n2 f g k := by
  have e : (fun n => ev f n1 n * ev g n2 n) = ev (mulC n1 n2 f g) 33 := funext fun n => mul_ev n1 n2 f g h n
  rw [e, difs_ev, if_pos hk]
end Go.Proofs.Ytdpiclmjdcjajaa
