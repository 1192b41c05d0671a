/-
  The reference's walks of FromInt and Div.
-/
import Derived.Test.YtjnaibeebijkaaaQ11
namespace Go.Proofs.Ytjnaibeebijkaaa
open Go.RowKit Num

theorem refquo_neg {n : Int} (h : n < 0) : rat true n.natAbs 1 = quo n 1 := by
  unfold quo
  rw [decide_eq_true h]
  rfl
theorem refquo_pos {n : Int} (h : ¬ n < 0) : rat false n.natAbs 1 = quo n 1 := by
  unfold quo
  rw [decide_eq_false h]
  rfl
theorem wrap64 {x : Int} (h1 : 0 ≤ x) (h2 : x < 18446744073709551616) : IntKind.u64.wrap x = x := by
  simp [IntKind.wrap, IntKind.bits, IntKind.signed]; omega

set_option maxHeartbeats 2000000 in
theorem refFromInt_any (n : Int) (w : World) (a1 : -9223372036854775808 ≤ n) (a2 : n ≤ 9223372036854775807) : Calls Try.prog 19 #[.int .i64 n] w (RatP (quo n 1) w) := by
  obtain ⟨m, hm⟩ : ∃ m, n.natAbs = m := ⟨_, rfl⟩
  have hm64 : m < 18446744073709551616 := by omega
  have hmp : m < pw 3 := Nat.lt_trans hm64 (by decide)
  have hc := fun W => limbs_any m hm64 W
  obtain ⟨r, hr⟩ : ∃ r, quo n 1 = r := ⟨_, rfl⟩
  have hb0 := below_alloc1 w (.cells #[.bool false, .slice none 0 0, .slice none 0 0] 24)
  have hB := BoxV.new w w.heap.size 24 (Nat.le_refl _) [.bool false, .slice none 0 0, .slice none 0 0]
  have HA := Lib.hid (And.intro hc (And.intro hmp (And.intro hb0 hB)))
  clear hc hmp hb0 hB hm64
  by_cases hn : n < 0
  · have hq : rat true m 1 = r := by rw [← hm, ← hr]; exact refquo_neg hn
    have z1 : IntKind.i64.wrap (n + 1) = n + 1 := wrap_in (by omega) (by omega)
    have z2 : IntKind.i64.wrap (-(n + 1)) = -(n + 1) := wrap_in (by omega) (by omega)
    have z3 : IntKind.u64.wrap (-(n + 1)) = -(n + 1) := wrap64 (by omega) (by omega)
    have z4 : IntKind.u64.wrap (-(n + 1) + 1) = (m : Int) := by rw [wrap64 (by omega) (by omega)]; omega
    have hd : decide (n < 0) = true := decide_eq_true hn
    have HQ := Lib.hid hq
    rw [hr]
    clear hq hr hm a1 a2 hn
    go_enter Try.func19, Try.ntmps19
    go_wp2_with fail
    refine (HA.out.1 _).mono ?_
    rintro e w2 ⟨v, rfl, hv, hb⟩
    obtain ⟨va, vn, vc, rfl⟩ := hv.shape
    have H2 := Lib.hid (And.intro hv (And.intro (below_next' HA.out.2.2.1 hb) (HA.out.2.2.2.below hb)))
    clear hv hb z1 z2 z3 z4 hd
    have t2 := H2.out.2.2.block.2
    go_wp2_with fail
    have hb8 := below_alloc1 w2 (.cells #[.int .u32 1] 47)
    obtain ⟨L, hL, eL, nL⟩ := (H2.out.1.below hb8).list HA.out.2.1
    refine (ref_whole hL eL (g := w2.heap.size) (by rw [World.cell?_alloc_at _ _ _ _ rfl]; rfl) (by omega)).mono ?_
    rw [HQ.out]
    rintro e w4 ⟨v, rfl, hv, hb9⟩
    have hb10 := below_next hb8 hb9
    have hB5 := H2.out.2.2.below hb10
    have hbb := below_next' H2.out.2.1 hb10
    have HV := Lib.hid hv
    obtain ⟨zn, zl, zc, en, el, ec, rfl, _⟩ := hv
    obtain ⟨⟨x0, x1, x2⟩, j0, j1, j2⟩ := hB5.three
    have HF := Lib.hid (And.intro hbb hB5)
    clear hB5 hbb hb8 hb9 hb10 t2 hL eL nL
    go_wp2
    obtain ⟨e1, e2⟩ := ratC_end HF.out.1 HF.out.2 HV.out
    exact bodyPost_ret (v := .agg #[.bool (decide (r.num < 0)), .slice zn zl zc, .slice en el ec]) (by simp [results, Try.results19, go_sem, x0, x1, x2]) rfl ⟨_, rfl, e1, e2⟩
  · have hq : rat false m 1 = r := by rw [← hm, ← hr]; exact refquo_pos hn
    have z3 : IntKind.u64.wrap n = (m : Int) := by rw [wrap64 (by omega) (by omega)]; omega
    have hd : decide (n < 0) = false := decide_eq_false hn
    have HQ := Lib.hid hq
    rw [hr]
    clear hq hr hm a1 a2 hn
    go_enter Try.func19, Try.ntmps19
    go_wp2_with fail
    refine (HA.out.1 _).mono ?_
    rintro e w2 ⟨v, rfl, hv, hb⟩
    obtain ⟨va, vn, vc, rfl⟩ := hv.shape
    have H2 := Lib.hid (And.intro hv (And.intro (below_next' HA.out.2.2.1 hb) (HA.out.2.2.2.below hb)))
    clear hv hb z3 hd
    have t2 := H2.out.2.2.block.2
    go_wp2_with fail
    have hb8 := below_alloc1 w2 (.cells #[.int .u32 1] 47)
    obtain ⟨L, hL, eL, nL⟩ := (H2.out.1.below hb8).list HA.out.2.1
    refine (ref_whole hL eL (g := w2.heap.size) (by rw [World.cell?_alloc_at _ _ _ _ rfl]; rfl) (by omega)).mono ?_
    rw [HQ.out]
    rintro e w4 ⟨v, rfl, hv, hb9⟩
    have hb10 := below_next hb8 hb9
    have hB5 := H2.out.2.2.below hb10
    have hbb := below_next' H2.out.2.1 hb10
    have HV := Lib.hid hv
    obtain ⟨zn, zl, zc, en, el, ec, rfl, _⟩ := hv
    obtain ⟨⟨x0, x1, x2⟩, j0, j1, j2⟩ := hB5.three
    have HF := Lib.hid (And.intro hbb hB5)
    clear hB5 hbb hb8 hb9 hb10 t2 hL eL nL
    go_wp2
    obtain ⟨e1, e2⟩ := ratC_end HF.out.1 HF.out.2 HV.out
    exact bodyPost_ret (v := .agg #[.bool (decide (r.num < 0)), .slice zn zl zc, .slice en el ec]) (by simp [results, Try.results19, go_sem, x0, x1, x2]) rfl ⟨_, rfl, e1, e2⟩

theorem tail_assign {ops : Array Oper} {Q : Exit → Act → World → Prop} {K : Act → World → Prop} {m d : Nat} {v : Value} {a : Act} {w : World} {ty : TypeId} {pos : String} {es : Array Edge}
    (ho : ops[m]? = some ⟨some d, .assign (.const v), ty, pos, es, none⟩) (h : K (a.put (some d) v) w) : wpOp Try.prog ops Q m K a w := by
  unfold wpOp
  rw [ho]
  simp only [Region.wanted, if_true]
  left
  unfold Oper.wp
  have hr : Sem.run Try.prog (execOp a.eval ⟨some d, .assign (.const v), ty, pos, es, none⟩) w = .ok (.value v) w := by go_simp
  rw [hr, Oper.upon_value]
  exact h

theorem act_eq (a : Act) (n : Nat) (hn : a.tmps.size = n) (hd : a.defers = []) : a = ⟨((List.range n).map fun t => a.tmps.getD t undef).toArray, []⟩ := by
  obtain ⟨T, D⟩ := a
  simp only at hn hd
  subst hd
  congr 1
  refine Array.ext (by simp [hn]) fun i h1 h2 => ?_
  simp [Array.getD_eq_getD_getElem?, h1]

def divA (K : Nat) (p q : Rat) : Tmp → Kd := fun t => ([.any, .any, .box K p, .box K q, .any, .any, .rat K p, .ratC K p, .rat K q, .ratC K q] : List Kd).getD t .any

def divB (K : Nat) (p q r : Rat) : Tmp → Ke := fun t => ([.any, .any, .box K p, .box K q, .any, .any, .any, .any, .any, .any, .any, .any, .any, .any, .any, .adB (decide (p.num < 0)), .con (.bool (decide (p.num < 0))), .adB (decide (q.num < 0)), .con (.bool (decide (q.num < 0))), .con (.bool ((decide (p.num < 0)) != (decide (q.num < 0)))), .adN K p.num.natAbs, .nt K p.num.natAbs, .adN K q.den, .nt K q.den, .nt (K + K) (p.num.natAbs * q.den), .adN K p.den, .nt K p.den, .adN K q.num.natAbs, .nt K q.num.natAbs, .nt (K + K) (p.den * q.num.natAbs), .ratC r] : List Ke).getD t .any

set_option maxRecDepth 100000 in
set_option maxHeartbeats 4000000 in
theorem refDiv_any (na nb : Bool) (an ad bn bd : Option Addr) (n1 c1 n2 c2 m1 e1 m2 e2 k : Nat) (p q : Rat) (w : World) (hp : RatV w na an n1 c1 ad n2 c2 k p) (hq : RatV w nb bn m1 e1 bd m2 e2 k q) (hk : k ≤ 20000) :
    Calls Try.prog 40 #[.agg #[.bool na, .slice an n1 c1, .slice ad n2 c2], .agg #[.bool nb, .slice bn m1 e1, .slice bd m2 e2]] w (QuoP p q w) := by
  obtain ⟨r, hr⟩ : ∃ r, p / q = r := ⟨_, rfl⟩
  have HE := Lib.hid ((ref_div_eq p q).trans hr)
  have HE0 := Lib.hid hr
  have hQuo : QuoP p q w = fun e w' => ∃ v, e = .returned (.tuple #[v, .bool (decide (q ≠ 0))]) ∧ RatC w' v r ∧ Below w.heap.size w w' := by unfold QuoP; rw [hr]
  rw [hQuo]
  clear hr hQuo
  obtain ⟨bq, hbq⟩ : ∃ bq, decide (q ≠ 0) = bq := ⟨_, rfl⟩
  rw [hbq]
  obtain ⟨K, hK⟩ : ∃ K, K = k + 1 := ⟨_, rfl⟩
  have HP := Lib.hid (And.intro hp (And.intro hq (And.intro hK (show K ≤ 20001 by omega))))
  clear hp hq hK hk
  go_enter Try.func40, Try.ntmps40
  go_wp2_with fail
  obtain ⟨W0, hW0⟩ : ∃ W0, ((w.alloc (.cells #[.bool na, .slice an n1 c1, .slice ad n2 c2] 24)).alloc (.cells #[.bool nb, .slice bn m1 e1, .slice bd m2 e2] 24)).alloc (.cells #[.bool false, .slice none 0 0, .slice none 0 0] 24) = W0 := ⟨_, rfl⟩
  have hbw : Below w.heap.size w W0 := by rw [← hW0]; exact below_alloc3 _ _ _ _
  obtain ⟨hb0, hb1, hb2⟩ := alloc3_box w [.bool na, .slice an n1 c1, .slice ad n2 c2] [.bool nb, .slice bn m1 e1, .slice bd m2 e2] [.bool false, .slice none 0 0, .slice none 0 0] 24
  simp only [hW0] at hb0 hb1 hb2
  rw [hW0]
  clear hW0
  have hk1 : (Kd.box K p).holds W0 (.pointer (some ⟨w.heap.size, 0, none⟩)) := by rw [HP.out.2.2.1]; exact box_any hb0 (HP.out.1.below hbw)
  have hk2 : (Kd.box K q).holds W0 (.pointer (some ⟨w.heap.size + 1, 0, none⟩)) := by rw [HP.out.2.2.1]; exact box_any hb1 (HP.out.2.1.below hbw)
  have HX := Lib.hid (And.intro hbw (And.intro hb0 (And.intro hb1 (And.intro hb2 (And.intro hk1 hk2)))))
  clear hbw hb0 hb1 hb2 hk1 hk2
  refine region_flow_tail (Fk (divA K p q)) (by rfl) (fun t w w' v hb h => Kd.below hb h) 31 4 [] (by rfl) (by kernel_rfl) (by kernel_rfl) (by kernel_rfl) (by kernel_rfl) (fun t ht => by cases ht) [2, 3] (by kernel_rfl) ?h0 (fun t v h => Kd.draw _ _ _ h) ?steps ?fin
  case h0 =>
    intro t ht
    simp only [List.mem_cons, List.not_mem_nil, or_false] at ht
    rcases ht with rfl | rfl
    · exact HX.out.2.2.2.2.1
    · exact HX.out.2.2.2.2.2
  case steps =>
    have hk' : K ≤ 80000 := Nat.le_trans HP.out.2.2.2 (by omega)
    exact ⟨flowN_of (fl_load guard_none rfl rfl) (by decide), flowN_of (fl_refCanon guard_none (.inl rfl) rfl hk') (by decide), flowN_of (fl_load guard_none rfl rfl) (by decide), flowN_of (fl_refCanon guard_none (.inl rfl) rfl hk') (by decide), trivial⟩
  intro a w2 hb2 hsz hdf hfacts hout _
  have f6 : (Kd.ratC K p).holds w2 (a.tmps.getD 7 undef) := hfacts 1 7 (by decide) rfl
  have f8 : (Kd.ratC K q).holds w2 (a.tmps.getD 9 undef) := hfacts 3 9 (by decide) rfl
  have e2' : a.tmps.getD 2 undef = .pointer (some ⟨w.heap.size, 0, none⟩) := hout 2 (free_of (by kernel_rfl))
  have e3' : a.tmps.getD 3 undef = .pointer (some ⟨w.heap.size + 1, 0, none⟩) := hout 3 (free_of (by kernel_rfl))
  have e4' : a.tmps.getD 4 undef = .pointer (some ⟨w.heap.size + 1 + 1, 0, none⟩) := hout 4 (free_of (by kernel_rfl))
  have hsz' : a.tmps.size = 31 := hsz
  have hdf' : a.defers = [] := hdf
  change runFrom _ _ _ 2 4 a w2
  refine two_stores (t := 2) (t' := 3) (u := 7) (u' := 9) rfl rfl e2' e3' (HX.out.2.1.below hb2) (HX.out.2.2.1.below hb2) (noLimb_rat _ _ _ _ _ _ _) (noLimb_rat _ _ _ _ _ _ _) (by omega) f6.1 f8.1 fun W hT => ?_
  obtain ⟨⟨x0, y0, z0, hB0, hC0⟩, ⟨x1, y1, z1, hB1, hC1⟩, hbel, hkept⟩ := hT
  have HQ : Hid (CanonR 31 w.heap.size (w.heap.size + 1) (w.heap.size + 1 + 1) K p q w a W) :=
    Lib.hid ⟨e2', e3', e4', hsz', hdf', boxC_of hB0 hC0 f6.2, boxC_of hB1 hC1 f8.2, hkept _ _ (HX.out.2.2.2.1.below hb2) (by omega) (by omega), hbel w (below_next' HX.out.1 hb2)⟩
  clear hb2 hsz hdf hfacts hout f6 f8 e2' e3' e4' hsz' hdf' hB0 hC0 hB1 hC1 hbel hkept HX
  obtain ⟨u, hu⟩ : ∃ u : Nat → Value, ∀ t, a.tmps.getD t undef = u t := ⟨_, fun _ => rfl⟩
  have ha := act_eq a 31 HQ.out.size HQ.out.defers
  have e2' := HQ.out.e2
  have e3' := HQ.out.e3
  have e4' := HQ.out.e4
  have HQ2 := Lib.hid (And.intro HQ.out.k2 (And.intro HQ.out.k3 (And.intro HQ.out.res HQ.out.bel)))
  clear HQ
  have HQ := HQ2
  clear HQ2
  simp only [hu] at ha e2' e3' e4'
  have ha' : a = ⟨#[u 0, u 1, u 2, u 3, u 4, u 5, u 6, u 7, u 8, u 9, u 10, u 11, u 12, u 13, u 14, u 15, u 16, u 17, u 18, u 19, u 20, u 21, u 22, u 23, u 24, u 25, u 26, u 27, u 28, u 29, u 30], []⟩ := ha
  rw [e2', e3', e4'] at ha'
  clear ha hu e2' e3' e4'
  subst ha'
  have hres := HQ.out.2.2.1
  obtain ⟨g, X0, X1, X2, eg, y0, y1, y2, ⟨yn, yl, yc, dn, dl, dc, hv, hn, hd⟩, hs⟩ := HQ.out.2.1
  simp only [Value.pointer.injEq, Option.some.injEq, Addr.mk.injEq, and_true] at eg
  subst eg
  simp only [Value.agg.injEq, Array.mk.injEq, List.cons.injEq, and_true] at hv
  obtain ⟨rfl, rfl, rfl⟩ := hv
  have hl := num_len hn
  obtain ⟨⟨k0, k1, k2⟩, f0, f1, f2⟩ := hres.three
  clear hn hd hs hres
  obtain ⟨sg, hsg⟩ : ∃ sg, decide (q.num < 0) = sg := ⟨_, rfl⟩
  rw [hsg] at y0
  clear hsg
  by_cases h0 : yl = 0
  · have hb : ((yl : Int) == 0) = true := by simp [h0]
    have hq0 : q = 0 := Rat.num_eq_zero.1 (hl.1 h0)
    have hr0 : r = 0 := by rw [← HE0.out, hq0, Rat.div_def]; simp
    have hb0 : bq = false := by rw [← hbq, hq0]; simp
    subst hb0
    have HR0 := Lib.hid hr0
    clear h0 hl hq0 hbq hr0
    go_wp2_with fail
    refine (refFromInt_any 0 W (by omega) (by omega)).mono ?_
    rintro e w3 ⟨v, rfl, hv, hb3⟩
    rw [quo_zero, ← HR0.out] at hv
    have hbb := below_next' HQ.out.2.2.2 hb3
    have hB5 := HQ.out.2.2.1.below hb3
    have HV := Lib.hid hv
    obtain ⟨zn, zl, zc, en, el, ec, rfl, _⟩ := hv
    clear k0 k1 k2 f0 f1 f2 y0 y1 y2 hb3
    obtain ⟨⟨k0, k1, k2⟩, f0, f1, f2⟩ := hB5.three
    have HF := Lib.hid (And.intro hbb hB5)
    clear hB5 hbb
    go_wp2
    obtain ⟨e1, e2⟩ := ratC_end HF.out.1 HF.out.2 HV.out
    exact bodyPost_ret (v := .tuple #[.agg #[.bool (decide (r.num < 0)), .slice zn zl zc, .slice en el ec], .bool false]) (by simp [results, Try.results40, go_sem, k0, k1, k2]) rfl ⟨_, rfl, e1, e2⟩
  · have hb : ((yl : Int) == 0) = false := by rw [beq_eq_false_iff_ne]; omega
    have hq0 : q ≠ 0 := fun e => h0 (hl.2 (by rw [e]; rfl))
    have hb0 : bq = true := by rw [← hbq, decide_eq_true hq0]
    subst hb0
    clear h0 hl hq0 hbq
    go_wp2_with fail
    clear k0 k1 k2 f0 f1 f2 y0 y1 y2
    refine region_flow_tail (Fe (divB K p q r)) (by rfl) (Fe.mono _) 31 16 [] (by rfl) (by kernel_rfl) (by kernel_rfl) (by kernel_rfl) (by kernel_rfl) (fun t ht => by cases ht) [2, 3] (by kernel_rfl) ?g0 (Fe.draw _) ?gsteps ?gfin
    case g0 =>
      intro t ht
      simp only [List.mem_cons, List.not_mem_nil, or_false] at ht
      rcases ht with rfl | rfl
      · exact HQ.out.1
      · exact HQ.out.2.1
    case gsteps =>
      have hk1 : K ≤ 100000 := Nat.le_trans HP.out.2.2.2 (by omega)
      have hk2 : K + K ≤ 80000 := by have := HP.out.2.2.2; omega
      exact ⟨flowN_of ((e_field rfl).1 rfl) (by decide), flowN_of (e_loadB rfl rfl) (by decide), flowN_of ((e_field rfl).1 rfl) (by decide), flowN_of (e_loadB rfl rfl) (by decide), flowN_of (e_bneq rfl rfl rfl) (by decide), flowN_of ((e_field rfl).2.1 rfl) (by decide), flowN_of (e_loadN rfl rfl) (by decide), flowN_of ((e_field rfl).2.2 rfl) (by decide), flowN_of (e_loadN rfl rfl) (by decide), flowN_of (e_mul rfl rfl rfl hk1) (by decide), flowN_of ((e_field rfl).2.2 rfl) (by decide), flowN_of (e_loadN rfl rfl) (by decide), flowN_of ((e_field rfl).2.1 rfl) (by decide), flowN_of (e_loadN rfl rfl) (by decide), flowN_of (e_mul rfl rfl rfl hk1) (by decide), flowN_of (e_build rfl (.inl rfl) (.inl rfl) rfl HE.out hk2 hk2) (by decide), trivial⟩
    intro a3 w3 hb3 hsz3 hdf3 hfacts hout _
    have f24 : RatC w3 (a3.tmps.getD 30 undef) r := hfacts 15 30 (by decide) rfl
    have e4' : a3.tmps.getD 4 undef = .pointer (some ⟨w.heap.size + 1 + 1, 0, none⟩) := hout 4 (free_of (by kernel_rfl))
    have hB := HQ.out.2.2.1.below hb3
    have hsz : a3.tmps.size = 31 := hsz3
    have hdd0 : a3.defers = [] := hdf3
    change runFrom _ _ _ 2 16 a3 w3
    simp only [runFrom]
    refine e_store (t := 4) (u := 30) rfl e4' hB f24 fun an' ln' cn' ad' ld' cd' hR => ?_
    refine tail_assign rfl ?_
    obtain ⟨⟨x0, x1, x2⟩, _⟩ := (hB.store3 (.bool (decide (r.num < 0))) (.slice an' ln' cn') (.slice ad' ld' cd')).three
    have hdd : (a3.put (some 5) (.bool true)).defers = [] := hdd0
    have e4'' : (a3.put (some 5) (.bool true)).tmps[4]?.getD undef = .pointer (some ⟨w.heap.size + 1 + 1, 0, none⟩) := by rw [← Array.getD_eq_getD_getElem?, put_getD _ _ _ _ (show (5 : Nat) < a3.tmps.size by rw [hsz]; decide)]; exact e4'
    have e5'' : (a3.put (some 5) (.bool true)).tmps[5]?.getD undef = .bool true := by rw [← Array.getD_eq_getD_getElem?, put_getD _ _ _ _ (show (5 : Nat) < a3.tmps.size by rw [hsz]; decide)]; rfl
    have HR := Lib.hid (ratC_end (below_next' HQ.out.2.2.2 hb3) hB hR)
    generalize a3.put (some 5) (.bool true) = a8 at *
    clear hfacts hout hb3 hB hR f24
    go_wp2_with fail
    exact bodyPost_ret (v := .tuple #[.agg #[.bool (decide (r.num < 0)), .slice an' ln' cn', .slice ad' ld' cd'], .bool true]) (by simp [results, Try.results40, go_sem, e4'', e5'', x0, x1, x2]) hdd ⟨_, rfl, HR.out.1, HR.out.2⟩

theorem refDiv_a {w : World} {x y : Value} {k : Nat} {p q : Rat} (hx : RatA w x k p) (hy : RatA w y k q) (hk : k ≤ 20000) : Calls Try.prog 40 #[x, y] w (QuoP p q w) := by
  obtain ⟨_, _, _, _, _, _, _, rfl, h1⟩ := hx.v
  obtain ⟨_, _, _, _, _, _, _, rfl, h2⟩ := hy.v
  exact refDiv_any _ _ _ _ _ _ _ _ _ _ _ _ _ _ k p q w h1 h2 hk

end Go.Proofs.Ytjnaibeebijkaaa

/-
  The walks of the reference's Small and of ToInt.
-/
namespace Go.Proofs.Ytjnaibeebijkaaa
open Go.RowKit Num

theorem quo_div (a b : Int) : quo a 1 / quo b 1 = quo a b := by
  have e1 : ∀ n : Int, quo n 1 = rat (decide (n < 0)) n.natAbs 1 := fun n => by
    unfold quo
    have : decide ((1 : Int) < 0) = false := rfl
    rw [this, Bool.bne_false]
    rfl
  rw [e1, e1, Rat.div_def, ← rat_inv, rat_mul, Nat.mul_one, Nat.one_mul]
  rfl

/-- The whole number that fits. -/
def toI (q : Rat) : Int × Bool := if q.den = 1 ∧ -9223372036854775808 ≤ q.num ∧ q.num ≤ 9223372036854775807 then (q.num, true) else (0, false)
def ToIntP (q : Rat) (w : World) (e : Ending) (w' : World) : Prop := e = .returned (.tuple #[.int .i64 (toI q).1, .bool (toI q).2]) ∧ Below w.heap.size w w'

theorem whole_num {neg : Bool} {n d : Nat} (hd : 0 < d) (h : n % d = 0) : (rat neg n d).num = if neg = true then -((n / d : Nat) : Int) else ((n / d : Nat) : Int) := by
  have hg : Nat.gcd n d = d := Nat.gcd_eq_right (Nat.dvd_of_mod_eq_zero h)
  have ha := rat_num_natAbs neg n d hd
  rw [hg] at ha
  rcases Nat.eq_zero_or_pos n with rfl | hn
  · rw [rat_zero_num]
    simp
  · have hs := rat_neg_iff neg n d hn hd
    generalize (rat neg n d).num = z at *
    generalize n / d = x at *
    cases neg
    · have : ¬ z < 0 := of_decide_eq_false hs
      simp
      omega
    · have : z < 0 := of_decide_eq_true hs
      simp
      omega

theorem wrap_back {x : Nat} (h : x ≤ 9223372036854775808) : IntKind.i64.wrap (-IntKind.i64.wrap (x : Int)) = -(x : Int) := by
  simp [IntKind.wrap, IntKind.bits, IntKind.signed]; omega

set_option maxHeartbeats 4000000 in
theorem ratToInt_any (neg : Bool) (an ad : Option Addr) (n1 c1 n2 c2 k : Nat) (p : Rat) (w : World) (hp : RatV w neg an n1 c1 ad n2 c2 k p) (hk : k ≤ 50000) :
    Calls Try.prog 15 #[.agg #[.bool neg, .slice an n1 c1, .slice ad n2 c2]] w (ToIntP p w) := by
  have hr := readV (w := w.alloc (.cells #[.bool neg, .slice an n1 c1, .slice ad n2 c2] 24)) (hp.below (below_alloc1 _ _)) hk
  have HR := Lib.hid (And.intro hr (below_alloc1 w (.cells #[.bool neg, .slice an n1 c1, .slice ad n2 c2] 24)))
  clear hp hr
  go_enter Try.func15, Try.ntmps15
  go_wp2_with fail
  refine HR.out.1.mono ?_
  rintro e w1 ⟨ng, fa, fl, fc, ga, gl, gc, n, d, rfl, hn, hd, hd0, hnk, hdk, hq, hb1⟩
  have H1 := Lib.hid (And.intro hn (And.intro hd (And.intro hd0 (And.intro hnk (And.intro hq (below_next' HR.out.2 hb1))))))
  clear hn hd hd0 hnk hdk hq hb1 HR
  go_wp2_with fail
  have hb2 := below_alloc1 w1 (.cells #[.bool ng, .slice fa fl fc, .slice ga gl gc] 51)
  refine (divide_any _ _ n d (k + 1) _ (H1.out.1.below hb2) (H1.out.2.1.below hb2) H1.out.2.2.1 H1.out.2.2.2.1 (by omega)).mono ?_
  rintro e w2 ⟨q1, r1, rfl, hq1, hr1, hb3⟩
  obtain ⟨ra, rl, rc, rfl⟩ := hr1.shape
  obtain ⟨qa, ql, qc, rfl⟩ := hq1.shape
  have hbf := (BoxV.new w1 w1.heap.size 51 (Nat.le_refl _) [.bool ng, .slice fa fl fc, .slice ga gl gc]).below hb3
  have hb4 := below_next H1.out.2.2.2.2.2 (below_next hb2 hb3)
  have h3 := nt_len hr1
  have h4 := den_one_iff (neg := ng) (n := n) H1.out.2.2.1
  have h5 := fun h => whole_num (neg := ng) (n := n) H1.out.2.2.1 h
  rw [H1.out.2.2.2.2.1] at h4 h5
  obtain ⟨Ql, hQl, cQ, vQ⟩ := hq1
  have hw := word_any _ Ql w2 hQl cQ.1
  rw [vQ] at hw
  obtain ⟨x, hx⟩ : ∃ x, n / d = x := ⟨_, rfl⟩
  rw [hx] at hw h5
  obtain ⟨⟨y0, y1, y2⟩, _⟩ := hbf.three
  have H2 := Lib.hid (And.intro hw (And.intro hb4 (And.intro h3 (And.intro h4 h5))))
  clear hQl cQ vQ hw hx hb2 hb3 hb4 hbf h3 h4 h5 hr1 H1
  go_wp2_with fail
  refine H2.out.1.mono ?_
  rintro e w3 ⟨rfl, hcase⟩
  by_cases hr0 : rl = 0
  · have hm : n % d = 0 := H2.out.2.2.1.1 hr0
    have hd1 : p.den = 1 := H2.out.2.2.2.1.2 hm
    have hnum := H2.out.2.2.2.2 hm
    have hg : decide ((rl : Int) > 0) = false := decide_eq_false (by omega)
    rcases hcase with ⟨hX, rfl⟩ | ⟨hX, rfl⟩
    · cases ng
      · rw [if_neg (by simp)] at hnum
        by_cases hlt : (x : Int) ≤ 9223372036854775807
        · have HT := Lib.hid (show toI p = ((x : Int), true) by unfold toI; rw [if_pos ⟨hd1, by omega, by omega⟩, hnum])
          have z1 : IntKind.i64.wrap (x : Int) = (x : Int) := wrap_in (by omega) (by omega)
          have z2 : decide ((x : Int) > 9223372036854775807) = false := decide_eq_false (by omega)
          subst hr0
          clear hm hd1 hnum hX
          go_wp2
          exact bodyPost_ret (v := .tuple #[.int .i64 ((x : Int)), .bool true]) (by simp [results, Try.results15, go_sem]) rfl ⟨by rw [HT.out], H2.out.2.1⟩
        · have HT := Lib.hid (show toI p = (0, false) by unfold toI; rw [if_neg (by omega)])
          have z2 : decide ((x : Int) > 9223372036854775807) = true := decide_eq_true (by omega)
          subst hr0
          clear hm hd1 hnum hX
          go_wp2
          exact bodyPost_ret (v := .tuple #[.int .i64 0, .bool false]) (by simp [results, Try.results15, go_sem]) rfl ⟨by rw [HT.out], H2.out.2.1⟩
      · rw [if_pos rfl] at hnum
        by_cases hlt : (x : Int) ≤ 9223372036854775808
        · have HT := Lib.hid (show toI p = (-(x : Int), true) by unfold toI; rw [if_pos ⟨hd1, by omega, by omega⟩, hnum])
          have z1 : IntKind.i64.wrap (-IntKind.i64.wrap (x : Int)) = -(x : Int) := wrap_back (by omega)
          have z2 : decide ((x : Int) > 9223372036854775808) = false := decide_eq_false (by omega)
          subst hr0
          clear hm hd1 hnum hX
          go_wp2
          exact bodyPost_ret (v := .tuple #[.int .i64 (-(x : Int)), .bool true]) (by simp [results, Try.results15, go_sem]; have z := wrap_back (x := x) (by omega); rw [IntWalk.i64_left, IntWalk.i64_left] at z; exact z) rfl ⟨by rw [HT.out], H2.out.2.1⟩
        · have HT := Lib.hid (show toI p = (0, false) by unfold toI; rw [if_neg (by omega)])
          have z2 : decide ((x : Int) > 9223372036854775808) = true := decide_eq_true (by omega)
          subst hr0
          clear hm hd1 hnum hX
          go_wp2
          exact bodyPost_ret (v := .tuple #[.int .i64 0, .bool false]) (by simp [results, Try.results15, go_sem]) rfl ⟨by rw [HT.out], H2.out.2.1⟩
    · have HT := Lib.hid (show toI p = (0, false) by unfold toI; rw [if_neg]; intro h; rw [hnum] at h; split at h <;> omega)
      subst hr0
      clear hm hd1 hnum hX
      go_wp2
      exact bodyPost_ret (v := .tuple #[.int .i64 0, .bool false]) (by simp [results, Try.results15, go_sem]) rfl ⟨by rw [HT.out], H2.out.2.1⟩
  · have hd1 : p.den ≠ 1 := fun e => hr0 (H2.out.2.2.1.2 (H2.out.2.2.2.1.1 e))
    have HT := Lib.hid (show toI p = (0, false) by unfold toI; rw [if_neg (fun h => hd1 h.1)])
    have hpos : 0 < rl := by omega
    rcases hcase with ⟨hX, rfl⟩ | ⟨hX, rfl⟩
    all_goals
      clear hd1 hX
      go_wp2
      exact bodyPost_ret (v := .tuple #[.int .i64 0, .bool false]) (by simp [results, Try.results15, go_sem]) rfl ⟨by rw [HT.out], H2.out.2.1⟩

theorem ratToInt_a {w : World} {x : Value} {k : Nat} {p : Rat} (hx : RatA w x k p) (hk : k ≤ 50000) : Calls Try.prog 15 #[x] w (ToIntP p w) := by
  obtain ⟨_, _, _, _, _, _, _, rfl, h1⟩ := hx.v
  exact ratToInt_any _ _ _ _ _ _ _ k p w h1 hk

set_option maxHeartbeats 2000000 in
theorem refSmall_any (a b : Int) (w : World) (a1 : -9223372036854775808 ≤ a) (a2 : a ≤ 9223372036854775807) (b1 : -9223372036854775808 ≤ b) (b2 : b ≤ 9223372036854775807) :
    Calls Try.prog 21 #[.int .i64 a, .int .i64 b] w (RatP (quo a b) w) := by
  obtain ⟨r, hr⟩ : ∃ r, quo a b = r := ⟨_, rfl⟩
  obtain ⟨x, hx⟩ : ∃ x, quo a 1 = x := ⟨_, rfl⟩
  obtain ⟨y, hy⟩ : ∃ y, quo b 1 = y := ⟨_, rfl⟩
  have hsz : ∀ n : Int, -9223372036854775808 ≤ n → n ≤ 9223372036854775807 → Sz (quo n 1) 3 := fun n h1 h2 => by
    unfold quo
    refine sz_rat ?_ ?_ (by omega)
    · exact Nat.lt_trans (show n.natAbs < 18446744073709551616 by omega) (by decide)
    · decide
  have hc1 := fun W => refFromInt_any a W a1 a2
  have hc2 := fun W => refFromInt_any b W b1 b2
  have hs1 := hsz a a1 a2
  have hs2 := hsz b b1 b2
  have hq : x / y = r := by rw [← hx, ← hy, ← hr]; exact quo_div a b
  rw [hx] at hc1 hs1
  rw [hy] at hc2 hs2
  rw [hr]
  have hd := fun (W : World) (u v : Value) (hu : RatC W u x) (hv : RatC W v y) => refDiv_a (hu.a hs1) (hv.a hs2) (show 3 ≤ 20000 by omega)
  unfold QuoP at hd
  rw [hq] at hd
  obtain ⟨bq, hbq⟩ : ∃ bq, decide (y ≠ 0) = bq := ⟨_, rfl⟩
  rw [hbq] at hd
  have hb0 := below_alloc1 w (.cells #[.bool false, .slice none 0 0, .slice none 0 0] 24)
  have hB := BoxV.new w w.heap.size 24 (Nat.le_refl _) [.bool false, .slice none 0 0, .slice none 0 0]
  have HA := Lib.hid (And.intro hc1 (And.intro hc2 (And.intro hd (And.intro hb0 hB))))
  clear hr hx hy hsz hc1 hc2 hs1 hs2 hq hd hbq hb0 hB a1 a2 b1 b2
  go_enter Try.func21, Try.ntmps21
  go_wp2_with fail
  refine (HA.out.1 _).mono ?_
  rintro e w1 ⟨v1, rfl, hv1, hb1⟩
  have H1 := Lib.hid (And.intro hv1 (And.intro (below_next' HA.out.2.2.2.1 hb1) (HA.out.2.2.2.2.below hb1)))
  obtain ⟨p1, p2, p3, p4, p5, p6, rfl, _⟩ := hv1
  clear hb1
  go_wp2_with fail
  refine (HA.out.2.1 _).mono ?_
  rintro e w2 ⟨v2, rfl, hv2, hb2⟩
  have H2 := Lib.hid (And.intro (H1.out.1.below hb2) (And.intro hv2 (And.intro (below_next' H1.out.2.1 hb2) (H1.out.2.2.below hb2))))
  obtain ⟨s1, s2, s3, s4, s5, s6, rfl, _⟩ := hv2
  clear hb2 H1
  go_wp2_with fail
  refine (HA.out.2.2.1 _ _ _ H2.out.1 H2.out.2.1).mono ?_
  rintro e w3 ⟨v3, rfl, hv3, hb3⟩
  have hB5 := H2.out.2.2.2.below hb3
  have hbb := below_next' H2.out.2.2.1 hb3
  have HV := Lib.hid hv3
  obtain ⟨zn, zl, zc, en, el, ec, rfl, _⟩ := hv3
  obtain ⟨⟨x0, x1, x2⟩, j0, j1, j2⟩ := hB5.three
  have t1 := hB5.block.2
  have HF := Lib.hid (And.intro hbb hB5)
  clear hB5 hbb hb3
  go_wp2
  obtain ⟨e1, e2⟩ := ratC_end HF.out.1 HF.out.2 HV.out
  obtain ⟨⟨x0, x1, x2⟩, _⟩ := ((HF.out.2.store3 (.bool (decide (r.num < 0))) (.slice zn zl zc) (.slice en el ec)).alloc (.cells #[.bool (decide (r.num < 0)), .slice zn zl zc, .slice en el ec] 24)).three
  exact bodyPost_ret (v := .agg #[.bool (decide (r.num < 0)), .slice zn zl zc, .slice en el ec]) (by simp [results, Try.results21, go_sem, x0, x1, x2]) rfl ⟨_, rfl, e1.below (below_alloc1 _ _), e2.alloc e2.size _⟩

end Go.Proofs.Ytjnaibeebijkaaa

/-
  The reference's walk of ToInt.
-/
namespace Go.Proofs.Ytjnaibeebijkaaa
open Go.RowKit Num

section
variable {κ : Tmp → Ke} {G : Nat → Option Tmp} {d s t u c : Tmp} {ty : TypeId} {pos : String} {es : Array Edge} {k x y : Nat} {q : Rat} {g : Option (Nat × Bool)}

theorem eguard {j : Nat} {b : Bool} (hG : G j = some s) (hk : κ s = .con (.bool b)) : GuardYes (Fe κ) G (some (j, b)) :=
  ⟨s, hG, fun w v h => by unfold Fe at h; rw [hk] at h; exact h⟩
theorem eguard0 : GuardYes (Fe κ) G none := trivial
theorem g_step {o : Oper} (hg : GuardYes (Fe κ) G o.guard)
    (h : ∀ (a : Act) (w : World) (Q : Exit → Act → World → Prop), (∀ t, .tmp t ∈ o.op.operands.toList → (κ t).holds w (a.tmps.getD t undef)) → o.wp Try.prog a w (fun a' w' => ∃ v, a' = a.put o.dst v ∧ Below w.heap.size w w' ∧ ∀ d, o.dst = some d → (κ d).holds w' v) Q) :
    FlowStep Try.prog (Fe κ) G o := step_yes (F := Fe κ) (G := G) hg h
theorem g_skip {op : Op} {j : Nat} {b : Bool} (hG : G j = some s) (hs : κ s = .con undef ∨ κ s = .con (.bool (!b))) (hd : κ d = .con undef) : FlowStep Try.prog (Fe κ) G ⟨some d, op, ty, pos, es, some (j, b)⟩ := by
  intro a w Q hf
  have h := hf s (.inr ⟨(j, b), rfl, hG⟩)
  have hw : flowWanted G ⟨some d, op, ty, pos, es, some (j, b)⟩ (fun t => a.tmps.getD t undef) = false := by
    unfold flowWanted
    simp only [hG]
    rcases hs with hs | hs
    · have h' : a.tmps.getD s undef = undef := by unfold Fe at h; rw [hs] at h; exact h
      rw [h']
      rfl
    · have h' : a.tmps.getD s undef = .bool (!b) := by unfold Fe at h; rw [hs] at h; exact h
      rw [h']
      cases b <;> rfl
  exact ⟨fun e => by rw [hw] at e; (cases e), fun _ d' hd' => by cases hd'; unfold Fe; rw [hd]; rfl⟩

set_option maxRecDepth 100000 in
theorem g_fieldB {b : Bool} (hg : GuardYes (Fe κ) G g) (ht : κ t = .box k q) (hb : decide (q.num < 0) = b) (hd : κ d = .adB b) : FlowStep Try.prog (Fe κ) G ⟨some d, .fieldAddr 24 (.tmp t) 0, ty, pos, es, g⟩ := by
  refine g_step hg fun a w Q hf => ?_
  have h := hf t (by simp [Op.operands])
  rw [ht] at h
  obtain ⟨b', x0, x1, x2, e, c0, c1, c2, ⟨an, ln, cn, ad, ld, cd, hv, hn, hdn⟩, hs⟩ := (show (Kd.boxC k q).holds w _ from h)
  simp only [Value.agg.injEq, Array.mk.injEq, List.cons.injEq, and_true] at hv
  obtain ⟨rfl, rfl, rfl⟩ := hv
  unfold Oper.wp
  rw [(run_field _ _ _ _ _ _ _ _ b' e).1, Oper.upon_value]
  exact ⟨_, rfl, Below.refl _ _, fun d' hd' => by cases hd'; rw [hd, ← hb]; exact ⟨_, _, rfl, c0⟩⟩
set_option maxRecDepth 100000 in
theorem g_fieldN (hg : GuardYes (Fe κ) G g) (ht : κ t = .box k q) (hd : κ d = .adN k q.num.natAbs) : FlowStep Try.prog (Fe κ) G ⟨some d, .fieldAddr 24 (.tmp t) 1, ty, pos, es, g⟩ := by
  refine g_step hg fun a w Q hf => ?_
  have h := hf t (by simp [Op.operands])
  rw [ht] at h
  obtain ⟨b', x0, x1, x2, e, c0, c1, c2, ⟨an, ln, cn, ad, ld, cd, hv, hn, hdn⟩, hs⟩ := (show (Kd.boxC k q).holds w _ from h)
  simp only [Value.agg.injEq, Array.mk.injEq, List.cons.injEq, and_true] at hv
  obtain ⟨rfl, rfl, rfl⟩ := hv
  unfold Oper.wp
  rw [(run_field _ _ _ _ _ _ _ _ b' e).2.1, Oper.upon_value]
  exact ⟨_, rfl, Below.refl _ _, fun d' hd' => by cases hd'; rw [hd]; exact ⟨_, _, _, rfl, c1, hn, hs.1⟩⟩
theorem g_loadB {b : Bool} (hg : GuardYes (Fe κ) G g) (ht : κ t = .adB b) (hd : κ d = .con (.bool b)) : FlowStep Try.prog (Fe κ) G ⟨some d, .load 4 (.tmp t), ty, pos, es, g⟩ := by
  refine g_step hg fun a w Q hf => ?_
  have h := hf t (by simp [Op.operands])
  rw [ht] at h
  obtain ⟨g', j, e, hc⟩ := h
  unfold Oper.wp
  rw [run_load4 _ _ _ _ _ _ _ _ g' j b e hc, Oper.upon_value]
  exact ⟨_, rfl, Below.refl _ _, fun d' hd' => by cases hd'; rw [hd]; rfl⟩
theorem g_loadN (hg : GuardYes (Fe κ) G g) (ht : κ t = .adN k x) (hd : κ d = .nt k x) : FlowStep Try.prog (Fe κ) G ⟨some d, .load 22 (.tmp t), ty, pos, es, g⟩ := by
  refine g_step hg fun a w Q hf => ?_
  have h := hf t (by simp [Op.operands])
  rw [ht] at h
  obtain ⟨g', j, u, e, hc, hn, hx⟩ := h
  obtain ⟨ua, un, uc, rfl⟩ := hn.shape
  unfold Oper.wp
  rw [run_load22 _ _ _ _ _ _ _ _ g' j ua un uc e hc, Oper.upon_value]
  exact ⟨_, rfl, Below.refl _ _, fun d' hd' => by cases hd'; rw [hd]; exact ⟨hn, hx⟩⟩
theorem g_move (hg : GuardYes (Fe κ) G g) (hd : κ d = κ t) : FlowStep Try.prog (Fe κ) G ⟨some d, .move (.tmp t), ty, pos, es, g⟩ := by
  refine g_step hg fun a w Q hf => ?_
  have h := hf t (by simp [Op.operands])
  unfold Oper.wp
  have hr : Sem.run Try.prog (execOp a.eval ⟨some d, .move (.tmp t), ty, pos, es, g⟩) w = .ok (.value (a.tmps.getD t undef)) w := by go_simp
  rw [hr, Oper.upon_value]
  exact ⟨_, rfl, Below.refl _ _, fun d' hd' => by cases hd'; rw [hd]; exact h⟩
theorem g_un {op : Op} {v r : Value} (hg : GuardYes (Fe κ) G g) (hm : .tmp t ∈ op.operands.toList) (ht : κ t = .con v) (hd : κ d = .con r)
    (hrun : ∀ (a : Act) (w : World), a.tmps.getD t undef = v → Sem.run Try.prog (execOp a.eval ⟨some d, op, ty, pos, es, g⟩) w = .ok (.value r) w) : FlowStep Try.prog (Fe κ) G ⟨some d, op, ty, pos, es, g⟩ := by
  refine g_step hg fun a w Q hf => ?_
  have h := hf t hm
  rw [ht] at h
  unfold Oper.wp
  rw [hrun a w h, Oper.upon_value]
  exact ⟨_, rfl, Below.refl _ _, fun d' hd' => by cases hd'; rw [hd]; rfl⟩
theorem g_not {b : Bool} (hg : GuardYes (Fe κ) G g) (ht : κ t = .con (.bool b)) (hd : κ d = .con (.bool (!b))) : FlowStep Try.prog (Fe κ) G ⟨some d, .unOp .not 4 (.tmp t), ty, pos, es, g⟩ :=
  g_un hg (by simp [Op.operands]) ht hd fun a w h => by go_simp
theorem g_gtr0 {n : Int} {b : Bool} (hg : GuardYes (Fe κ) G g) (ht : κ t = .con (.int .i64 n)) (hd : κ d = .con (.bool b)) (hb : decide (0 < n) = b) : FlowStep Try.prog (Fe κ) G ⟨some d, .binOp .gtr 3 (.tmp t) (.const (.int .i64 0)) 3, ty, pos, es, g⟩ :=
  g_un hg (by simp [Op.operands]) ht hd fun a w h => by subst hb; go_simp
theorem g_eql0 {n : Int} {b : Bool} (hg : GuardYes (Fe κ) G g) (ht : κ t = .con (.int .i64 n)) (hd : κ d = .con (.bool b)) (hb : (n == 0) = b) : FlowStep Try.prog (Fe κ) G ⟨some d, .binOp .eql 3 (.tmp t) (.const (.int .i64 0)) 3, ty, pos, es, g⟩ :=
  g_un hg (by simp [Op.operands]) ht hd fun a w h => by subst hb; go_simp
/-- 'c && t'. -/
theorem g_and {v : Value} (hg : GuardYes (Fe κ) G g) (hc : κ c = .con (.bool true)) (hd : κ d = κ t) : FlowStep Try.prog (Fe κ) G ⟨some d, .pick (.tmp c) (.tmp t) (.const v), ty, pos, es, g⟩ := by
  refine g_step hg fun a w Q hf => ?_
  have h := hf t (by simp [Op.operands])
  have h' := hf c (by simp [Op.operands])
  rw [hc] at h'
  have h' : a.tmps.getD c undef = .bool true := h'
  unfold Oper.wp
  have hr : Sem.run Try.prog (execOp a.eval ⟨some d, .pick (.tmp c) (.tmp t) (.const v), ty, pos, es, g⟩) w = .ok (.value (a.tmps.getD t undef)) w := by go_simp
  rw [hr, Oper.upon_value]
  exact ⟨_, rfl, Below.refl _ _, fun d' hd' => by cases hd'; rw [hd]; exact h⟩
theorem g_and_no {v : Value} (hg : GuardYes (Fe κ) G g) (hc : κ c = .con (.bool false)) (hd : κ d = .con v) : FlowStep Try.prog (Fe κ) G ⟨some d, .pick (.tmp c) (.tmp t) (.const v), ty, pos, es, g⟩ :=
  g_un hg (by simp [Op.operands]) hc hd fun a w h => by go_simp
/-- 'c || t'. -/
theorem g_or {v : Value} (hg : GuardYes (Fe κ) G g) (hc : κ c = .con (.bool false)) (hd : κ d = κ t) : FlowStep Try.prog (Fe κ) G ⟨some d, .pick (.tmp c) (.const v) (.tmp t), ty, pos, es, g⟩ := by
  refine g_step hg fun a w Q hf => ?_
  have h := hf t (by simp [Op.operands])
  have h' := hf c (by simp [Op.operands])
  rw [hc] at h'
  have h' : a.tmps.getD c undef = .bool false := h'
  unfold Oper.wp
  have hr : Sem.run Try.prog (execOp a.eval ⟨some d, .pick (.tmp c) (.const v) (.tmp t), ty, pos, es, g⟩) w = .ok (.value (a.tmps.getD t undef)) w := by go_simp
  rw [hr, Oper.upon_value]
  exact ⟨_, rfl, Below.refl _ _, fun d' hd' => by cases hd'; rw [hd]; exact h⟩
theorem g_or_yes {v : Value} (hg : GuardYes (Fe κ) G g) (hc : κ c = .con (.bool true)) (hd : κ d = .con v) : FlowStep Try.prog (Fe κ) G ⟨some d, .pick (.tmp c) (.const v) (.tmp t), ty, pos, es, g⟩ :=
  g_un hg (by simp [Op.operands]) hc hd fun a w h => by go_simp
theorem g_cmp (hg : GuardYes (Fe κ) G g) (ht : κ t = .nt k x) (hu : κ u = .nt k y) (hd : κ d = .con (.int .i64 (cmpI x y))) : FlowStep Try.prog (Fe κ) G ⟨some d, .call ⟨.value (.func 55), #[.tmp t, .tmp u], #[22, 22]⟩, ty, pos, es, g⟩ := by
  refine g_step hg fun a w Q hf => ?_
  have h1 := hf t (by simp [Op.operands, Call.operands])
  have h2 := hf u (by simp [Op.operands, Call.operands])
  rw [ht] at h1
  rw [hu] at h2
  unfold Oper.wp
  rw [c2_55, Oper.upon_enter]
  refine (natCmp_nt h1.1 h2.1).mono ?_
  rintro e w' ⟨rfl, n, rfl⟩
  exact ⟨_, rfl, below_drewN (Below.refl _ _) n, fun d' hd' => by cases hd'; rw [hd]; rfl⟩
theorem g_limbs {n : Nat} (hg : GuardYes (Fe κ) G g) (hd : κ d = .nt k n) (h1 : n < 18446744073709551616) (h2 : n < pw k) : FlowStep Try.prog (Fe κ) G ⟨some d, .call ⟨.value (.func 56), #[.const (.int .u64 n)], #[55]⟩, ty, pos, es, g⟩ := by
  refine g_step hg fun a w Q _ => ?_
  have hr : Sem.run Try.prog (execOp a.eval ⟨some d, .call ⟨.value (.func 56), #[.const (.int .u64 n)], #[55]⟩, ty, pos, es, g⟩) w = .ok (.enter 56 #[.int .u64 n]) w := by go_simp
  unfold Oper.wp
  rw [hr, Oper.upon_enter]
  refine (limbs_any n h1 w).mono ?_
  rintro e w' ⟨v, rfl, hv, hb⟩
  exact ⟨_, rfl, hb, fun d' hd' => by cases hd'; rw [hd]; exact ⟨hv, h2⟩⟩
end

def toA (K : Nat) (p : Rat) : Tmp → Ke := fun t => ([.any, .box K p, .any, .any, .any, .any, .any, .any, .any, .any, .any, .any, .any, .any, .any, .any, .any, .adN K p.num.natAbs, .nt K p.num.natAbs, .nt K 9223372036854775808, .con (.int .i64 (cmpI ((p.num.natAbs : Nat) : Int) ((9223372036854775808 : Nat) : Int))), .con (.bool true), .con (.bool true), .con undef, .con undef, .con undef, .con undef, .con undef, .con undef, .con undef, .con undef, .con undef, .con undef, .con (.bool true)] : List Ke).getD t .any

def toN (K : Nat) (p : Rat) : Tmp → Ke := fun t => ([.any, .box K p, .any, .any, .any, .any, .any, .any, .any, .any, .any, .any, .any, .any, .any, .any, .any, .adN K p.num.natAbs, .nt K p.num.natAbs, .nt K 9223372036854775808, .con (.int .i64 (cmpI ((p.num.natAbs : Nat) : Int) ((9223372036854775808 : Nat) : Int))), .con (.bool false), .con (.bool false), .adB true, .con (.bool true), .con (.bool false), .con (.bool false), .con undef, .con undef, .con undef, .con undef, .con undef, .con (.bool false), .con (.bool false)] : List Ke).getD t .any

def toP (K : Nat) (p : Rat) (b : Bool) : Tmp → Ke := fun t => ([.any, .box K p, .any, .any, .any, .any, .any, .any, .any, .any, .any, .any, .any, .any, .any, .any, .any, .adN K p.num.natAbs, .nt K p.num.natAbs, .nt K 9223372036854775808, .con (.int .i64 (cmpI ((p.num.natAbs : Nat) : Int) ((9223372036854775808 : Nat) : Int))), .con (.bool false), .con (.bool false), .adB false, .con (.bool false), .con (.bool true), .con (.bool true), .adN K p.num.natAbs, .nt K p.num.natAbs, .nt K 9223372036854775808, .con (.int .i64 (cmpI ((p.num.natAbs : Nat) : Int) ((9223372036854775808 : Nat) : Int))), .con (.bool b), .con (.bool b), .con (.bool b)] : List Ke).getD t .any

set_option maxRecDepth 100000 in
set_option maxHeartbeats 4000000 in
theorem refToInt_any (na : Bool) (an ad : Option Addr) (n1 c1 n2 c2 k : Nat) (p : Rat) (w : World) (hp : RatV w na an n1 c1 ad n2 c2 k p) (hk : k ≤ 40000) :
    Calls Try.prog 16 #[.agg #[.bool na, .slice an n1 c1, .slice ad n2 c2]] w (ToIntP p w) := by
  have hbw := below_alloc1 w (.cells #[.bool na, .slice an n1 c1, .slice ad n2 c2] 24)
  have hb0 := BoxV.new w w.heap.size 24 (Nat.le_refl _) [.bool na, .slice an n1 c1, .slice ad n2 c2]
  obtain ⟨K, hK⟩ : ∃ K, K = k + 4 := ⟨_, rfl⟩
  have hpw := pw_le (show k + 1 ≤ K by omega)
  have hpw3 := pw_le (show 3 ≤ K by omega)
  have hs : Sz p K := ⟨Nat.lt_of_lt_of_le hp.sz.1 hpw, Nat.lt_of_lt_of_le hp.sz.2 hpw⟩
  have HM := Lib.hid (show 9223372036854775808 < pw K from Nat.lt_of_lt_of_le (show 9223372036854775808 < pw 3 by decide) hpw3)
  have hc := refCanonical_a (hp.below hbw).a (show k ≤ 80000 by omega)
  have HA := Lib.hid (And.intro hc (And.intro hbw (And.intro hb0 (And.intro hs (show K ≤ 80000 by omega)))))
  clear hp hc hbw hb0 hs hK hpw hpw3
  go_enter Try.func16, Try.ntmps16
  go_wp2_with fail
  refine HA.out.1.mono ?_
  rintro e w1 ⟨v, rfl, hv, hb3⟩
  have hB0 := HA.out.2.2.1.below hb3
  have hbb := below_next' HA.out.2.1 hb3
  obtain ⟨s, hse⟩ : ∃ s, decide (p.num < 0) = s := ⟨_, rfl⟩
  obtain ⟨yn, yl, yc, dn, dl, dc, rfl, hn, hd⟩ := hv
  rw [hse]
  have hg := grown_set3 w1 w.heap.size (.bool s) (.slice yn yl yc) (.slice dn dl dc)
  have hn2 := hn.other hB0 (noLimb_rat _ _ _ _ _ _ _) hg
  have hd2 := hd.other hB0 (noLimb_rat _ _ _ _ _ _ _) hg
  have hB0' := hB0.store3 (.bool s) (.slice yn yl yc) (.slice dn dl dc)
  have hbb' := below_set3 hbb hB0.block.1 (.bool s) (.slice yn yl yc) (.slice dn dl dc)
  have hC : RatC (((w1.setCell ⟨w.heap.size, 0, none⟩ (.bool s)).setCell ⟨w.heap.size, 1, none⟩ (.slice yn yl yc)).setCell ⟨w.heap.size, 2, none⟩ (.slice dn dl dc)) (.agg #[.bool s, .slice yn yl yc, .slice dn dl dc]) p := ⟨_, _, _, _, _, _, by rw [hse], hn2, hd2⟩
  have hI := refIntegral_a (hC.a HA.out.2.2.2.1) HA.out.2.2.2.2
  obtain ⟨⟨y0, y1, y2⟩, i0, i1, i2⟩ := hB0.three
  have H1 := Lib.hid (And.intro hI (And.intro hC (And.intro hn2 (And.intro hB0' hbb'))))
  have HSE := Lib.hid hse
  clear hn hd hg hn2 hd2 hB0' hbb hbb' hB0 hb3 hse hC hI
  go_wp2_with fail
  refine H1.out.1.mono ?_
  rintro e w2 ⟨rfl, hb4⟩
  clear y0 y1 y2 i0 i1 i2
  have hB2 := H1.out.2.2.2.1.below hb4
  have hN2 := H1.out.2.2.1.below hb4
  have hbb := below_next' H1.out.2.2.2.2 hb4
  have hk := boxC_of hB2 (H1.out.2.1.below hb4) HA.out.2.2.2.1
  obtain ⟨⟨y0, y1, y2⟩, _⟩ := hB2.three
  have H2 := Lib.hid (And.intro hN2 (And.intro hB2 (And.intro hbb hk)))
  have HW := Lib.hid hbb
  have hlen3 : p.num.natAbs < pw 3 → yl ≤ 3 := fun h => by
    obtain ⟨l, ⟨_, _, ec, _⟩, cl, vl⟩ := hN2
    simp only [Value.slice.injEq] at ec
    rw [ec.2.1]
    exact cano_len cl (by rw [vl]; exact h)
  have hlenx : yl ≤ 3 → p.num.natAbs < pw 3 := fun h => by
    obtain ⟨l, ⟨_, _, ec, _⟩, cl, vl⟩ := hN2
    simp only [Value.slice.injEq] at ec
    rw [← vl]
    exact Nat.lt_of_lt_of_le (val_lt cl.1) (pw_le (by rw [← ec.2.1]; exact h))
  have HL := Lib.hid hlen3
  clear H1 hB2 hN2 hbb hk hb4 hlen3
  obtain ⟨bd, hbd⟩ : ∃ bd, decide (p.den = 1) = bd := ⟨_, rfl⟩
  rw [hbd]
  cases bd
  · have HT := Lib.hid (show toI p = (0, false) by unfold toI; rw [if_neg (fun h => of_decide_eq_false hbd h.1)])
    clear hbd hlenx
    go_wp2
    exact bodyPost_ret (v := .tuple #[.int .i64 0, .bool false]) (by simp [results, Try.results16, go_sem]) rfl ⟨by rw [HT.out], HW.out⟩
  · have HD := Lib.hid (of_decide_eq_true hbd)
    clear hbd
    by_cases h3 : 3 < yl
    · have hg3 : decide ((yl : Int) > 3) = true := decide_eq_true (by omega)
      have HT := Lib.hid (show toI p = (0, false) by
        unfold toI
        rw [if_neg]
        intro h
        have := HL.out (Nat.lt_trans (show p.num.natAbs < 18446744073709551616 by omega) (by decide))
        omega)
      clear h3 hlenx
      go_wp2
      exact bodyPost_ret (v := .tuple #[.int .i64 0, .bool false]) (by simp [results, Try.results16, go_sem]) rfl ⟨by rw [HT.out], HW.out⟩
    · have hg3 : decide ((yl : Int) > 3) = false := decide_eq_false (by omega)
      have HX3 := Lib.hid (hlenx (by omega))
      clear h3 hlenx
      go_wp2_with fail
      clear y0 y1 y2 hg3 HW
      by_cases hbig : 9223372036854775808 < p.num.natAbs
      · have hb1 : decide (0 < (cmpI ((p.num.natAbs : Nat) : Int) ((9223372036854775808 : Nat) : Int))) = true := by rw [cmpI_gt (by omega)]; rfl
        refine region_flow (Fe (toA K p)) (by rfl) (Fe.mono _) 60 (by rfl) (by kernel_rfl) (by kernel_rfl) [1] (by kernel_rfl) ?g01 (Fe.draw _) ?gs1 ?gf1
        case g01 =>
          intro t ht
          simp only [List.mem_cons, List.not_mem_nil, or_false] at ht
          subst ht
          exact H2.out.2.2.2
        case gs1 =>
          have hM : 9223372036854775808 < pw K := HM.out
          exact ⟨g_fieldN eguard0 rfl rfl,
            g_loadN eguard0 rfl rfl,
            g_limbs (n := 9223372036854775808) eguard0 rfl (by omega) hM,
            g_cmp eguard0 rfl rfl rfl,
            g_gtr0 eguard0 rfl rfl hb1,
            g_move eguard0 rfl,
            g_skip (s := 22) rfl (.inr rfl) rfl,
            g_skip (s := 22) rfl (.inr rfl) rfl,
            g_skip (s := 22) rfl (.inr rfl) rfl,
            g_skip (s := 22) rfl (.inr rfl) rfl,
            g_skip (s := 26) rfl (.inl rfl) rfl,
            g_skip (s := 26) rfl (.inl rfl) rfl,
            g_skip (s := 26) rfl (.inl rfl) rfl,
            g_skip (s := 26) rfl (.inl rfl) rfl,
            g_skip (s := 26) rfl (.inl rfl) rfl,
            g_skip (s := 22) rfl (.inr rfl) rfl,
            g_or_yes eguard0 rfl rfl, trivial⟩
        intro a w9 hb9 hsz hdf hfacts hout
        clear hb1
        obtain ⟨u, hu⟩ : ∃ u : Nat → Value, ∀ t, a.tmps.getD t undef = u t := ⟨_, fun _ => rfl⟩
        have ha := act_eq a 60 hsz hdf
        have e1 : a.tmps.getD 1 undef = .pointer (some ⟨w.heap.size, 0, none⟩) := hout 1 (free_of (by kernel_rfl))
        have e33 : a.tmps.getD 33 undef = .bool true := hfacts 16 33 rfl
        simp only [hu] at ha e1 e33
        have ha' : a = ⟨#[u 0, u 1, u 2, u 3, u 4, u 5, u 6, u 7, u 8, u 9, u 10, u 11, u 12, u 13, u 14, u 15, u 16, u 17, u 18, u 19, u 20, u 21, u 22, u 23, u 24, u 25, u 26, u 27, u 28, u 29, u 30, u 31, u 32, u 33, u 34, u 35, u 36, u 37, u 38, u 39, u 40, u 41, u 42, u 43, u 44, u 45, u 46, u 47, u 48, u 49, u 50, u 51, u 52, u 53, u 54, u 55, u 56, u 57, u 58, u 59], []⟩ := ha
        rw [e1, e33] at ha'
        have hB := H2.out.2.1.below hb9
        have hN := H2.out.1.below hb9
        have hbb := below_next' H2.out.2.2.1 hb9
        clear ha hu e1 e33 hfacts hout hsz hdf
        subst ha'
        obtain ⟨⟨y0, y1, y2⟩, _⟩ := hB.three
        have HW := Lib.hid hbb
        clear hbb hB hb9
        have HT := Lib.hid (show toI p = (0, false) by unfold toI; rw [if_neg]; omega)
        clear hbig
        clear y0 y1 y2 hN
        go_wp2
        exact bodyPost_ret (v := .tuple #[.int .i64 0, .bool false]) (by simp [results, Try.results16, go_sem]) rfl ⟨by rw [HT.out], HW.out⟩
      · have HX := Lib.hid (show p.num.natAbs ≤ 9223372036854775808 by omega)
        have NB := Lib.hid (show decide (0 < (cmpI ((p.num.natAbs : Nat) : Int) ((9223372036854775808 : Nat) : Int))) = false by
          refine decide_eq_false ?_
          unfold cmpI
          split
          · omega
          · rw [if_neg (by omega)]
            omega)
        clear hbig
        cases s
        · have hs : decide (p.num < 0) = false := HSE.out
          have hb1 : decide (0 < (cmpI ((p.num.natAbs : Nat) : Int) ((9223372036854775808 : Nat) : Int))) = false := NB.out
          have HS := Lib.hid (show ¬ p.num < 0 from of_decide_eq_false hs)
          by_cases heq : p.num.natAbs = 9223372036854775808
          · have hb2 : ((cmpI ((p.num.natAbs : Nat) : Int) ((9223372036854775808 : Nat) : Int)) == 0) = true := by rw [cmpI_eq (by omega)]; rfl
            refine region_flow (Fe (toP K p true)) (by rfl) (Fe.mono _) 60 (by rfl) (by kernel_rfl) (by kernel_rfl) [1] (by kernel_rfl) ?g03 (Fe.draw _) ?gs3 ?gf3
            case g03 =>
              intro t ht
              simp only [List.mem_cons, List.not_mem_nil, or_false] at ht
              subst ht
              exact H2.out.2.2.2
            case gs3 =>
              have hM : 9223372036854775808 < pw K := HM.out
              exact ⟨g_fieldN eguard0 rfl rfl,
                g_loadN eguard0 rfl rfl,
                g_limbs (n := 9223372036854775808) eguard0 rfl (by omega) hM,
                g_cmp eguard0 rfl rfl rfl,
                g_gtr0 eguard0 rfl rfl hb1,
                g_move eguard0 rfl,
                g_fieldB (eguard (s := 22) rfl rfl) rfl hs rfl,
                g_loadB (eguard (s := 22) rfl rfl) rfl rfl,
                g_not (eguard (s := 22) rfl rfl) rfl rfl,
                g_move (eguard (s := 22) rfl rfl) rfl,
                g_fieldN (eguard (s := 26) rfl rfl) rfl rfl,
                g_loadN (eguard (s := 26) rfl rfl) rfl rfl,
                g_limbs (n := 9223372036854775808) (eguard (s := 26) rfl rfl) rfl (by omega) hM,
                g_cmp (eguard (s := 26) rfl rfl) rfl rfl rfl,
                g_eql0 (eguard (s := 26) rfl rfl) rfl rfl hb2,
                g_and (eguard (s := 22) rfl rfl) rfl rfl,
                g_or eguard0 rfl rfl, trivial⟩
            intro a w9 hb9 hsz hdf hfacts hout
            clear hb1 hb2 hs
            obtain ⟨u, hu⟩ : ∃ u : Nat → Value, ∀ t, a.tmps.getD t undef = u t := ⟨_, fun _ => rfl⟩
            have ha := act_eq a 60 hsz hdf
            have e1 : a.tmps.getD 1 undef = .pointer (some ⟨w.heap.size, 0, none⟩) := hout 1 (free_of (by kernel_rfl))
            have e33 : a.tmps.getD 33 undef = .bool true := hfacts 16 33 rfl
            simp only [hu] at ha e1 e33
            have ha' : a = ⟨#[u 0, u 1, u 2, u 3, u 4, u 5, u 6, u 7, u 8, u 9, u 10, u 11, u 12, u 13, u 14, u 15, u 16, u 17, u 18, u 19, u 20, u 21, u 22, u 23, u 24, u 25, u 26, u 27, u 28, u 29, u 30, u 31, u 32, u 33, u 34, u 35, u 36, u 37, u 38, u 39, u 40, u 41, u 42, u 43, u 44, u 45, u 46, u 47, u 48, u 49, u 50, u 51, u 52, u 53, u 54, u 55, u 56, u 57, u 58, u 59], []⟩ := ha
            rw [e1, e33] at ha'
            have hB := H2.out.2.1.below hb9
            have hN := H2.out.1.below hb9
            have hbb := below_next' H2.out.2.2.1 hb9
            clear ha hu e1 e33 hfacts hout hsz hdf
            subst ha'
            obtain ⟨⟨y0, y1, y2⟩, _⟩ := hB.three
            have HW := Lib.hid hbb
            clear hbb hB hb9
            have HT := Lib.hid (show toI p = (0, false) by have := HS.out; unfold toI; rw [if_neg]; omega)
            clear heq
            clear y0 y1 y2 hN
            go_wp2
            exact bodyPost_ret (v := .tuple #[.int .i64 0, .bool false]) (by simp [results, Try.results16, go_sem]) rfl ⟨by rw [HT.out], HW.out⟩
          · have hb2 : ((cmpI ((p.num.natAbs : Nat) : Int) ((9223372036854775808 : Nat) : Int)) == 0) = false := by have := HX.out; rw [cmpI_lt (by omega)]; rfl
            refine region_flow (Fe (toP K p false)) (by rfl) (Fe.mono _) 60 (by rfl) (by kernel_rfl) (by kernel_rfl) [1] (by kernel_rfl) ?g04 (Fe.draw _) ?gs4 ?gf4
            case g04 =>
              intro t ht
              simp only [List.mem_cons, List.not_mem_nil, or_false] at ht
              subst ht
              exact H2.out.2.2.2
            case gs4 =>
              have hM : 9223372036854775808 < pw K := HM.out
              exact ⟨g_fieldN eguard0 rfl rfl,
                g_loadN eguard0 rfl rfl,
                g_limbs (n := 9223372036854775808) eguard0 rfl (by omega) hM,
                g_cmp eguard0 rfl rfl rfl,
                g_gtr0 eguard0 rfl rfl hb1,
                g_move eguard0 rfl,
                g_fieldB (eguard (s := 22) rfl rfl) rfl hs rfl,
                g_loadB (eguard (s := 22) rfl rfl) rfl rfl,
                g_not (eguard (s := 22) rfl rfl) rfl rfl,
                g_move (eguard (s := 22) rfl rfl) rfl,
                g_fieldN (eguard (s := 26) rfl rfl) rfl rfl,
                g_loadN (eguard (s := 26) rfl rfl) rfl rfl,
                g_limbs (n := 9223372036854775808) (eguard (s := 26) rfl rfl) rfl (by omega) hM,
                g_cmp (eguard (s := 26) rfl rfl) rfl rfl rfl,
                g_eql0 (eguard (s := 26) rfl rfl) rfl rfl hb2,
                g_and (eguard (s := 22) rfl rfl) rfl rfl,
                g_or eguard0 rfl rfl, trivial⟩
            intro a w9 hb9 hsz hdf hfacts hout
            clear hb1 hb2 hs
            obtain ⟨u, hu⟩ : ∃ u : Nat → Value, ∀ t, a.tmps.getD t undef = u t := ⟨_, fun _ => rfl⟩
            have ha := act_eq a 60 hsz hdf
            have e1 : a.tmps.getD 1 undef = .pointer (some ⟨w.heap.size, 0, none⟩) := hout 1 (free_of (by kernel_rfl))
            have e33 : a.tmps.getD 33 undef = .bool false := hfacts 16 33 rfl
            simp only [hu] at ha e1 e33
            have ha' : a = ⟨#[u 0, u 1, u 2, u 3, u 4, u 5, u 6, u 7, u 8, u 9, u 10, u 11, u 12, u 13, u 14, u 15, u 16, u 17, u 18, u 19, u 20, u 21, u 22, u 23, u 24, u 25, u 26, u 27, u 28, u 29, u 30, u 31, u 32, u 33, u 34, u 35, u 36, u 37, u 38, u 39, u 40, u 41, u 42, u 43, u 44, u 45, u 46, u 47, u 48, u 49, u 50, u 51, u 52, u 53, u 54, u 55, u 56, u 57, u 58, u 59], []⟩ := ha
            rw [e1, e33] at ha'
            have hB := H2.out.2.1.below hb9
            have hN := H2.out.1.below hb9
            have hbb := below_next' H2.out.2.2.1 hb9
            clear ha hu e1 e33 hfacts hout hsz hdf
            subst ha'
            obtain ⟨⟨y0, y1, y2⟩, _⟩ := hB.three
            have HW := Lib.hid hbb
            clear hbb hB hb9
            have HNE := Lib.hid heq
            clear heq
            obtain ⟨l, hl, hcl, hvl⟩ := hN
            obtain ⟨ca, cc, ec, h1, h2, h3, h4⟩ := hl
            simp only [Value.slice.injEq] at ec
            obtain ⟨rfl, rfl, rfl⟩ := ec
            have hlo := hcl.1
            have HC := Lib.hid (And.intro hvl hlo)
            have hmax : val l ≤ 9223372036854775808 := by rw [hvl]; exact HX.out
            have hlen : l.length ≤ 3 := cano_len hcl (by rw [hvl]; exact HX3.out)
            clear hcl hvl hlo
            have HM2 := Lib.hid hmax
            clear hmax
            have z0 : IntKind.i64.wrap ((l.length : Int) - 1) = (l.length : Int) - 1 := wrap_in (by omega) (by omega)
            go_wp2
            go_loop [4, 5] (fun s i => ∃ (q : Int) (n : Nat), i = .int .i64 q ∧ -1 ≤ q ∧ q < l.length ∧ s = .int .u64 n ∧ n ≤ val l ∧ n = val (l.drop (q + 1).toNat)) (fun _ i => (intOf i + 1).toNat)
            case atStart => exact ⟨(l.length : Int) - 1, 0, by first | rfl | (congr 1), by omega, by omega, rfl, by omega, by rw [List.drop_of_length_le (by omega)]; rfl⟩
            case round =>
              obtain ⟨q, n, rfl, g1, g2, rfl, hn, hv⟩ := hrel
              by_cases hq : q = -1
              · subst hq
                have e : n = val l := by simpa using hv
                have hn2 : n = p.num.natAbs := e.trans HC.out.1
                have hmx : n ≤ 9223372036854775808 := e ▸ HM2.out
                clear hv hn e
                have hne := HNE.out
                have z2 : IntKind.i64.wrap (n : Int) = (n : Int) := wrap_in (by omega) (by omega)
                have HT := Lib.hid (show toI p = ((n : Int), true) by have := HS.out; have hnum : p.num = (n : Int) := (by omega); unfold toI; rw [if_pos ⟨HD.out, by omega, by omega⟩, hnum])
                clear hn2 hne
                go_wp2
                exact bodyPost_ret (v := .tuple #[.int .i64 (n : Int), .bool true]) (by simp [results, Try.results16, go_sem]) rfl ⟨by rw [HT.out], HW.out⟩
              · obtain ⟨j, rfl⟩ : ∃ j : Nat, q = j := ⟨q.toNat, by omega⟩
                obtain ⟨b, o, rfl, hcell⟩ := h4 j (by omega)
                have hb := HC.out.2 j
                rw [toNat_up] at hv
                have hd := val_drop l j (by omega)
                rw [← hv] at hd
                have hge := val_ge_drop l j (by omega)
                have hmx := HM2.out
                have z1 : IntKind.u64.wrap ((n : Int) * 1000000000) = (n : Int) * 1000000000 := wrap64 (by omega) (by omega)
                have z2 : IntKind.u64.wrap ((n : Int) * 1000000000 + (nth l j : Int)) = (n : Int) * 1000000000 + (nth l j : Int) := wrap64 (by omega) (by omega)
                have z3 : IntKind.u64.wrap (nth l j : Int) = (nth l j : Int) := wrap64 (by omega) (by omega)
                have z4 : IntKind.i64.wrap ((j : Int) - 1) = (j : Int) - 1 := wrap_in (by omega) (by omega)
                have HV := Lib.hid (And.intro hd (And.intro hge hmx))
                clear hv hd hge hmx h3 h4
                go_wp2
                go_round
                case rel =>
                  have H := HV.out
                  refine ⟨(j : Int) - 1, n * 1000000000 + nth l j, rfl, by omega, by omega, by go_num, by omega, ?_⟩
                  rw [show ((j : Int) - 1 + 1).toNat = j by omega]; omega
                case measure => simp [intOf]
        · have hs : decide (p.num < 0) = true := HSE.out
          have hb1 : decide (0 < (cmpI ((p.num.natAbs : Nat) : Int) ((9223372036854775808 : Nat) : Int))) = false := NB.out
          have HS := Lib.hid (show p.num < 0 from of_decide_eq_true hs)
          refine region_flow (Fe (toN K p)) (by rfl) (Fe.mono _) 60 (by rfl) (by kernel_rfl) (by kernel_rfl) [1] (by kernel_rfl) ?g02 (Fe.draw _) ?gs2 ?gf2
          case g02 =>
            intro t ht
            simp only [List.mem_cons, List.not_mem_nil, or_false] at ht
            subst ht
            exact H2.out.2.2.2
          case gs2 =>
            have hM : 9223372036854775808 < pw K := HM.out
            exact ⟨g_fieldN eguard0 rfl rfl,
              g_loadN eguard0 rfl rfl,
              g_limbs (n := 9223372036854775808) eguard0 rfl (by omega) hM,
              g_cmp eguard0 rfl rfl rfl,
              g_gtr0 eguard0 rfl rfl hb1,
              g_move eguard0 rfl,
              g_fieldB (eguard (s := 22) rfl rfl) rfl hs rfl,
              g_loadB (eguard (s := 22) rfl rfl) rfl rfl,
              g_not (eguard (s := 22) rfl rfl) rfl rfl,
              g_move (eguard (s := 22) rfl rfl) rfl,
              g_skip (s := 26) rfl (.inr rfl) rfl,
              g_skip (s := 26) rfl (.inr rfl) rfl,
              g_skip (s := 26) rfl (.inr rfl) rfl,
              g_skip (s := 26) rfl (.inr rfl) rfl,
              g_skip (s := 26) rfl (.inr rfl) rfl,
              g_and_no (eguard (s := 22) rfl rfl) rfl rfl,
              g_or eguard0 rfl rfl, trivial⟩
          intro a w9 hb9 hsz hdf hfacts hout
          clear hb1 hs
          obtain ⟨u, hu⟩ : ∃ u : Nat → Value, ∀ t, a.tmps.getD t undef = u t := ⟨_, fun _ => rfl⟩
          have ha := act_eq a 60 hsz hdf
          have e1 : a.tmps.getD 1 undef = .pointer (some ⟨w.heap.size, 0, none⟩) := hout 1 (free_of (by kernel_rfl))
          have e33 : a.tmps.getD 33 undef = .bool false := hfacts 16 33 rfl
          simp only [hu] at ha e1 e33
          have ha' : a = ⟨#[u 0, u 1, u 2, u 3, u 4, u 5, u 6, u 7, u 8, u 9, u 10, u 11, u 12, u 13, u 14, u 15, u 16, u 17, u 18, u 19, u 20, u 21, u 22, u 23, u 24, u 25, u 26, u 27, u 28, u 29, u 30, u 31, u 32, u 33, u 34, u 35, u 36, u 37, u 38, u 39, u 40, u 41, u 42, u 43, u 44, u 45, u 46, u 47, u 48, u 49, u 50, u 51, u 52, u 53, u 54, u 55, u 56, u 57, u 58, u 59], []⟩ := ha
          rw [e1, e33] at ha'
          have hB := H2.out.2.1.below hb9
          have hN := H2.out.1.below hb9
          have hbb := below_next' H2.out.2.2.1 hb9
          clear ha hu e1 e33 hfacts hout hsz hdf
          subst ha'
          obtain ⟨⟨y0, y1, y2⟩, _⟩ := hB.three
          have HW := Lib.hid hbb
          clear hbb hB hb9
          obtain ⟨l, hl, hcl, hvl⟩ := hN
          obtain ⟨ca, cc, ec, h1, h2, h3, h4⟩ := hl
          simp only [Value.slice.injEq] at ec
          obtain ⟨rfl, rfl, rfl⟩ := ec
          have hlo := hcl.1
          have HC := Lib.hid (And.intro hvl hlo)
          have hmax : val l ≤ 9223372036854775808 := by rw [hvl]; exact HX.out
          have hlen : l.length ≤ 3 := cano_len hcl (by rw [hvl]; exact HX3.out)
          clear hcl hvl hlo
          have HM2 := Lib.hid hmax
          clear hmax
          have z0 : IntKind.i64.wrap ((l.length : Int) - 1) = (l.length : Int) - 1 := wrap_in (by omega) (by omega)
          go_wp2
          go_loop [4, 5] (fun s i => ∃ (q : Int) (n : Nat), i = .int .i64 q ∧ -1 ≤ q ∧ q < l.length ∧ s = .int .u64 n ∧ n ≤ val l ∧ n = val (l.drop (q + 1).toNat)) (fun _ i => (intOf i + 1).toNat)
          case atStart => exact ⟨(l.length : Int) - 1, 0, by first | rfl | (congr 1), by omega, by omega, rfl, by omega, by rw [List.drop_of_length_le (by omega)]; rfl⟩
          case round =>
            obtain ⟨q, n, rfl, g1, g2, rfl, hn, hv⟩ := hrel
            by_cases hq : q = -1
            · subst hq
              have e : n = val l := by simpa using hv
              have hn2 : n = p.num.natAbs := e.trans HC.out.1
              have hmx : n ≤ 9223372036854775808 := e ▸ HM2.out
              clear hv hn e
              have hpos : 1 ≤ n := by have := HS.out; omega
              have z1 : IntKind.u64.wrap ((n : Int) - 1) = (n : Int) - 1 := wrap64 (by omega) (by omega)
              have z2 : IntKind.i64.wrap ((n : Int) - 1) = (n : Int) - 1 := wrap_in (by omega) (by omega)
              have z3 : IntKind.i64.wrap (-((n : Int) - 1)) = -((n : Int) - 1) := wrap_in (by omega) (by omega)
              have z4 : IntKind.i64.wrap (-((n : Int) - 1) - 1) = -((n : Int) - 1) - 1 := wrap_in (by omega) (by omega)
              have HT := Lib.hid (show toI p = (-((n : Int) - 1) - 1, true) by have := HS.out; have hnum : p.num = -((n : Int) - 1) - 1 := (by omega); unfold toI; rw [if_pos ⟨HD.out, by omega, by omega⟩, hnum])
              clear hn2
              go_wp2
              exact bodyPost_ret (v := .tuple #[.int .i64 (-((n : Int) - 1) - 1), .bool true]) (by simp [results, Try.results16, go_sem]) rfl ⟨by rw [HT.out], HW.out⟩
            · obtain ⟨j, rfl⟩ : ∃ j : Nat, q = j := ⟨q.toNat, by omega⟩
              obtain ⟨b, o, rfl, hcell⟩ := h4 j (by omega)
              have hb := HC.out.2 j
              rw [toNat_up] at hv
              have hd := val_drop l j (by omega)
              rw [← hv] at hd
              have hge := val_ge_drop l j (by omega)
              have hmx := HM2.out
              have z1 : IntKind.u64.wrap ((n : Int) * 1000000000) = (n : Int) * 1000000000 := wrap64 (by omega) (by omega)
              have z2 : IntKind.u64.wrap ((n : Int) * 1000000000 + (nth l j : Int)) = (n : Int) * 1000000000 + (nth l j : Int) := wrap64 (by omega) (by omega)
              have z3 : IntKind.u64.wrap (nth l j : Int) = (nth l j : Int) := wrap64 (by omega) (by omega)
              have z4 : IntKind.i64.wrap ((j : Int) - 1) = (j : Int) - 1 := wrap_in (by omega) (by omega)
              have HV := Lib.hid (And.intro hd (And.intro hge hmx))
              clear hv hd hge hmx h3 h4
              go_wp2
              go_round
              case rel =>
                have H := HV.out
                refine ⟨(j : Int) - 1, n * 1000000000 + nth l j, rfl, by omega, by omega, by go_num, by omega, ?_⟩
                rw [show ((j : Int) - 1 + 1).toNat = j by omega]; omega
              case measure => simp [intOf]

theorem refToInt_a {w : World} {x : Value} {k : Nat} {p : Rat} (hx : RatA w x k p) (hk : k ≤ 40000) : Calls Try.prog 16 #[x] w (ToIntP p w) := by
  obtain ⟨_, _, _, _, _, _, _, rfl, h1⟩ := hx.v
  exact refToInt_any _ _ _ _ _ _ _ k p w h1 hk

end Go.Proofs.Ytjnaibeebijkaaa
