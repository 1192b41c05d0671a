/-
  The reference's walks of FromInt and Div.
-/
import Derived.Test.YtdpiclmjdcjajaaQ11
namespace Go.Proofs.Ytdpiclmjdcjajaa
open Go.RowKit Num

theorem refquo_neg {n : Int} (h : n < 0) : rat true n.natAbs 1 = quo n 1 := by
  unfold quo
  rw [decide_eq_true h]
  rfl
theorem refquo_pos {n : Int} (h : ¬ n < 0) : rat false n.natAbs 1 = quo n 1 := by
  unfold quo
  rw [decide_eq_false h]
  rfl
theorem wrap64 {x : Int} (h1 : 0 ≤ x) (h2 : x < 18446744073709551616) : IntKind.u64.wrap x = x := by
  simp [IntKind.wrap, IntKind.bits, IntKind.signed]; omega

set_option maxHeartbeats 2000000 in
theorem refFromInt_any (n : Int) (w : World) (a1 : -9223372036854775808 ≤ n) (a2 : n ≤ 9223372036854775807) : Calls Try.prog 48 #[.int .i64 n] w (RatP (quo n 1) w) := by
  obtain ⟨m, hm⟩ : ∃ m, n.natAbs = m := ⟨_, rfl⟩
  have hm64 : m < 18446744073709551616 := by omega
  have hmp : m < pw 3 := Nat.lt_trans hm64 (by decide)
  have hc := fun W => limbs_any m hm64 W
  obtain ⟨r, hr⟩ : ∃ r, quo n 1 = r := ⟨_, rfl⟩
  have hb0 := below_alloc1 w (.cells #[.bool false, .slice none 0 0, .slice none 0 0] 24)
  have hB := BoxV.new w w.heap.size 24 (Nat.le_refl _) [.bool false, .slice none 0 0, .slice none 0 0]
  have HA := Lib.hid (And.intro hc (And.intro hmp (And.intro hb0 hB)))
  clear hc hmp hb0 hB hm64
  by_cases hn : n < 0
  · have hq : rat true m 1 = r := by rw [← hm, ← hr]; exact refquo_neg hn
    have z1 : IntKind.i64.wrap (n + 1) = n + 1 := wrap_in (by omega) (by omega)
    have z2 : IntKind.i64.wrap (-(n + 1)) = -(n + 1) := wrap_in (by omega) (by omega)
    have z3 : IntKind.u64.wrap (-(n + 1)) = -(n + 1) := wrap64 (by omega) (by omega)
    have z4 : IntKind.u64.wrap (-(n + 1) + 1) = (m : Int) := by rw [wrap64 (by omega) (by omega)]; omega
    have hd : decide (n < 0) = true := decide_eq_true hn
    have HQ := Lib.hid hq
    rw [hr]
    clear hq hr hm a1 a2 hn
    go_enter Try.func48, Try.ntmps48
    go_wp2_with fail
    refine (HA.out.1 _).mono ?_
    rintro e w2 ⟨v, rfl, hv, hb⟩
    obtain ⟨va, vn, vc, rfl⟩ := hv.shape
    have H2 := Lib.hid (And.intro hv (And.intro (below_next' HA.out.2.2.1 hb) (HA.out.2.2.2.below hb)))
    clear hv hb z1 z2 z3 z4 hd
    have t2 := H2.out.2.2.block.2
    go_wp2_with fail
    have hb8 := below_alloc1 w2 (.cells #[.int .u32 1] 58)
    obtain ⟨L, hL, eL, nL⟩ := (H2.out.1.below hb8).list HA.out.2.1
    refine (ref_whole hL eL (g := w2.heap.size) (by rw [World.cell?_alloc_at _ _ _ _ rfl]; rfl) (by omega)).mono ?_
    rw [HQ.out]
    rintro e w4 ⟨v, rfl, hv, hb9⟩
    have hb10 := below_next hb8 hb9
    have hB5 := H2.out.2.2.below hb10
    have hbb := below_next' H2.out.2.1 hb10
    have HV := Lib.hid hv
    obtain ⟨zn, zl, zc, en, el, ec, rfl, _⟩ := hv
    obtain ⟨⟨x0, x1, x2⟩, j0, j1, j2⟩ := hB5.three
    have HF := Lib.hid (And.intro hbb hB5)
    clear hB5 hbb hb8 hb9 hb10 t2 hL eL nL
    go_wp2
    obtain ⟨e1, e2⟩ := ratC_end HF.out.1 HF.out.2 HV.out
    exact bodyPost_ret (v := .agg #[.bool (decide (r.num < 0)), .slice zn zl zc, .slice en el ec]) (by simp [results, Try.results48, go_sem, x0, x1, x2]) rfl ⟨_, rfl, e1, e2⟩
  · have hq : rat false m 1 = r := by rw [← hm, ← hr]; exact refquo_pos hn
    have z3 : IntKind.u64.wrap n = (m : Int) := by rw [wrap64 (by omega) (by omega)]; omega
    have hd : decide (n < 0) = false := decide_eq_false hn
    have HQ := Lib.hid hq
    rw [hr]
    clear hq hr hm a1 a2 hn
    go_enter Try.func48, Try.ntmps48
    go_wp2_with fail
    refine (HA.out.1 _).mono ?_
    rintro e w2 ⟨v, rfl, hv, hb⟩
    obtain ⟨va, vn, vc, rfl⟩ := hv.shape
    have H2 := Lib.hid (And.intro hv (And.intro (below_next' HA.out.2.2.1 hb) (HA.out.2.2.2.below hb)))
    clear hv hb z3 hd
    have t2 := H2.out.2.2.block.2
    go_wp2_with fail
    have hb8 := below_alloc1 w2 (.cells #[.int .u32 1] 58)
    obtain ⟨L, hL, eL, nL⟩ := (H2.out.1.below hb8).list HA.out.2.1
    refine (ref_whole hL eL (g := w2.heap.size) (by rw [World.cell?_alloc_at _ _ _ _ rfl]; rfl) (by omega)).mono ?_
    rw [HQ.out]
    rintro e w4 ⟨v, rfl, hv, hb9⟩
    have hb10 := below_next hb8 hb9
    have hB5 := H2.out.2.2.below hb10
    have hbb := below_next' H2.out.2.1 hb10
    have HV := Lib.hid hv
    obtain ⟨zn, zl, zc, en, el, ec, rfl, _⟩ := hv
    obtain ⟨⟨x0, x1, x2⟩, j0, j1, j2⟩ := hB5.three
    have HF := Lib.hid (And.intro hbb hB5)
    clear hB5 hbb hb8 hb9 hb10 t2 hL eL nL
    go_wp2
    obtain ⟨e1, e2⟩ := ratC_end HF.out.1 HF.out.2 HV.out
    exact bodyPost_ret (v := .agg #[.bool (decide (r.num < 0)), .slice zn zl zc, .slice en el ec]) (by simp [results, Try.results48, go_sem, x0, x1, x2]) rfl ⟨_, rfl, e1, e2⟩

theorem tail_assign {ops : Array Oper} {Q : Exit → Act → World → Prop} {K : Act → World → Prop} {m d : Nat} {v : Value} {a : Act} {w : World} {ty : TypeId} {pos : String} {es : Array Edge}
    (ho : ops[m]? = some ⟨some d, .assign (.const v), ty, pos, es, none⟩) (h : K (a.put (some d) v) w) : wpOp Try.prog ops Q m K a w := by
  unfold wpOp
  rw [ho]
  simp only [Region.wanted, if_true]
  left
  unfold Oper.wp
  have hr : Sem.run Try.prog (execOp a.eval ⟨some d, .assign (.const v), ty, pos, es, none⟩) w = .ok (.value v) w := by go_simp
  rw [hr, Oper.upon_value]
  exact h

theorem act_eq (a : Act) (n : Nat) (hn : a.tmps.size = n) (hd : a.defers = []) : a = ⟨((List.range n).map fun t => a.tmps.getD t undef).toArray, []⟩ := by
  obtain ⟨T, D⟩ := a
  simp only at hn hd
  subst hd
  congr 1
  refine Array.ext (by simp [hn]) fun i h1 h2 => ?_
  simp [Array.getD_eq_getD_getElem?, h1]

def divA (K : Nat) (p q : Rat) : Tmp → Kd := fun t => ([.any, .any, .box K p, .box K q, .any, .any, .rat K p, .ratC K p, .rat K q, .ratC K q] : List Kd).getD t .any

def divB (K : Nat) (p q r : Rat) : Tmp → Ke := fun t => ([.any, .any, .box K p, .box K q, .any, .any, .any, .any, .any, .any, .any, .any, .any, .any, .any, .adB (decide (p.num < 0)), .con (.bool (decide (p.num < 0))), .adB (decide (q.num < 0)), .con (.bool (decide (q.num < 0))), .con (.bool ((decide (p.num < 0)) != (decide (q.num < 0)))), .adN K p.num.natAbs, .nt K p.num.natAbs, .adN K q.den, .nt K q.den, .nt (K + K) (p.num.natAbs * q.den), .adN K p.den, .nt K p.den, .adN K q.num.natAbs, .nt K q.num.natAbs, .nt (K + K) (p.den * q.num.natAbs), .ratC r] : List Ke).getD t .any

set_option maxRecDepth 100000 in
set_option maxHeartbeats 4000000 in
theorem refDiv_any (na nb : Bool) (an ad bn bd : Option Addr) (n1 c1 n2 c2 m1 e1 m2 e2 k : Nat) (p q : Rat) (w : World) (hp : RatV w na an n1 c1 ad n2 c2 k p) (hq : RatV w nb bn m1 e1 bd m2 e2 k q) (hk : k ≤ 20000) :
    Calls Try.prog 68 #[.agg #[.bool na, .slice an n1 c1, .slice ad n2 c2], .agg #[.bool nb, .slice bn m1 e1, .slice bd m2 e2]] w (QuoP p q w) := by
  obtain ⟨r, hr⟩ : ∃ r, p / q = r := ⟨_, rfl⟩
  have HE := Lib.hid ((ref_div_eq p q).trans hr)
  have HE0 := Lib.hid hr
  have hQuo : QuoP p q w = fun e w' => ∃ v, e = .returned (.tuple #[v, .bool (decide (q ≠ 0))]) ∧ RatC w' v r ∧ Below w.heap.size w w' := by unfold QuoP; rw [hr]
  rw [hQuo]
  clear hr hQuo
  obtain ⟨bq, hbq⟩ : ∃ bq, decide (q ≠ 0) = bq := ⟨_, rfl⟩
  rw [hbq]
  obtain ⟨K, hK⟩ : ∃ K, K = k + 1 := ⟨_, rfl⟩
  have HP := Lib.hid (And.intro hp (And.intro hq (And.intro hK (show K ≤ 20001 by omega))))
  clear hp hq hK hk
  go_enter Try.func68, Try.ntmps68
  go_wp2_with fail
  obtain ⟨W0, hW0⟩ : ∃ W0, ((w.alloc (.cells #[.bool na, .slice an n1 c1, .slice ad n2 c2] 24)).alloc (.cells #[.bool nb, .slice bn m1 e1, .slice bd m2 e2] 24)).alloc (.cells #[.bool false, .slice none 0 0, .slice none 0 0] 24) = W0 := ⟨_, rfl⟩
  have hbw : Below w.heap.size w W0 := by rw [← hW0]; exact below_alloc3 _ _ _ _
  obtain ⟨hb0, hb1, hb2⟩ := alloc3_box w [.bool na, .slice an n1 c1, .slice ad n2 c2] [.bool nb, .slice bn m1 e1, .slice bd m2 e2] [.bool false, .slice none 0 0, .slice none 0 0] 24
  simp only [hW0] at hb0 hb1 hb2
  rw [hW0]
  clear hW0
  have hk1 : (Kd.box K p).holds W0 (.pointer (some ⟨w.heap.size, 0, none⟩)) := by rw [HP.out.2.2.1]; exact box_any hb0 (HP.out.1.below hbw)
  have hk2 : (Kd.box K q).holds W0 (.pointer (some ⟨w.heap.size + 1, 0, none⟩)) := by rw [HP.out.2.2.1]; exact box_any hb1 (HP.out.2.1.below hbw)
  have HX := Lib.hid (And.intro hbw (And.intro hb0 (And.intro hb1 (And.intro hb2 (And.intro hk1 hk2)))))
  clear hbw hb0 hb1 hb2 hk1 hk2
  refine region_flow_tail (Fk (divA K p q)) (by rfl) (fun t w w' v hb h => Kd.below hb h) 31 4 [] (by rfl) (by kernel_rfl) (by kernel_rfl) (by kernel_rfl) (by kernel_rfl) (fun t ht => by cases ht) [2, 3] (by kernel_rfl) ?h0 (fun t v h => Kd.draw _ _ _ h) ?steps ?fin
  case h0 =>
    intro t ht
    simp only [List.mem_cons, List.not_mem_nil, or_false] at ht
    rcases ht with rfl | rfl
    · exact HX.out.2.2.2.2.1
    · exact HX.out.2.2.2.2.2
  case steps =>
    have hk' : K ≤ 80000 := Nat.le_trans HP.out.2.2.2 (by omega)
    exact ⟨flowN_of (fl_load guard_none rfl rfl) (by decide), flowN_of (fl_refCanon guard_none (.inl rfl) rfl hk') (by decide), flowN_of (fl_load guard_none rfl rfl) (by decide), flowN_of (fl_refCanon guard_none (.inl rfl) rfl hk') (by decide), trivial⟩
  intro a w2 hb2 hsz hdf hfacts hout _
  have f6 : (Kd.ratC K p).holds w2 (a.tmps.getD 7 undef) := hfacts 1 7 (by decide) rfl
  have f8 : (Kd.ratC K q).holds w2 (a.tmps.getD 9 undef) := hfacts 3 9 (by decide) rfl
  have e2' : a.tmps.getD 2 undef = .pointer (some ⟨w.heap.size, 0, none⟩) := hout 2 (free_of (by kernel_rfl))
  have e3' : a.tmps.getD 3 undef = .pointer (some ⟨w.heap.size + 1, 0, none⟩) := hout 3 (free_of (by kernel_rfl))
  have e4' : a.tmps.getD 4 undef = .pointer (some ⟨w.heap.size + 1 + 1, 0, none⟩) := hout 4 (free_of (by kernel_rfl))
  have hsz' : a.tmps.size = 31 := hsz
  have hdf' : a.defers = [] := hdf
  change runFrom _ _ _ 2 4 a w2
  refine two_stores (t := 2) (t' := 3) (u := 7) (u' := 9) rfl rfl e2' e3' (HX.out.2.1.below hb2) (HX.out.2.2.1.below hb2) (noLimb_rat _ _ _ _ _ _ _) (noLimb_rat _ _ _ _ _ _ _) (by omega) f6.1 f8.1 fun W hT => ?_
  obtain ⟨⟨x0, y0, z0, hB0, hC0⟩, ⟨x1, y1, z1, hB1, hC1⟩, hbel, hkept⟩ := hT
  have HQ : Hid (CanonR 31 w.heap.size (w.heap.size + 1) (w.heap.size + 1 + 1) K p q w a W) :=
    Lib.hid ⟨e2', e3', e4', hsz', hdf', boxC_of hB0 hC0 f6.2, boxC_of hB1 hC1 f8.2, hkept _ _ (HX.out.2.2.2.1.below hb2) (by omega) (by omega), hbel w (below_next' HX.out.1 hb2)⟩
  clear hb2 hsz hdf hfacts hout f6 f8 e2' e3' e4' hsz' hdf' hB0 hC0 hB1 hC1 hbel hkept HX
  obtain ⟨u, hu⟩ : ∃ u : Nat → Value, ∀ t, a.tmps.getD t undef = u t := ⟨_, fun _ => rfl⟩
  have ha := act_eq a 31 HQ.out.size HQ.out.defers
  have e2' := HQ.out.e2
  have e3' := HQ.out.e3
  have e4' := HQ.out.e4
  have HQ2 := Lib.hid (And.intro HQ.out.k2 (And.intro HQ.out.k3 (And.intro HQ.out.res HQ.out.bel)))
  clear HQ
  have HQ := HQ2
  clear HQ2
  simp only [hu] at ha e2' e3' e4'
  have ha' : a = ⟨#[u 0, u 1, u 2, u 3, u 4, u 5, u 6, u 7, u 8, u 9, u 10, u 11, u 12, u 13, u 14, u 15, u 16, u 17, u 18, u 19, u 20, u 21, u 22, u 23, u 24, u 25, u 26, u 27, u 28, u 29, u 30], []⟩ := ha
  rw [e2', e3', e4'] at ha'
  clear ha hu e2' e3' e4'
  subst ha'
  have hres := HQ.out.2.2.1
  obtain ⟨g, X0, X1, X2, eg, y0, y1, y2, ⟨yn, yl, yc, dn, dl, dc, hv, hn, hd⟩, hs⟩ := HQ.out.2.1
  simp only [Value.pointer.injEq, Option.some.injEq, Addr.mk.injEq, and_true] at eg
  subst eg
  simp only [Value.agg.injEq, Array.mk.injEq, List.cons.injEq, and_true] at hv
  obtain ⟨rfl, rfl, rfl⟩ := hv
  have hl := num_len hn
  obtain ⟨⟨k0, k1, k2⟩, f0, f1, f2⟩ := hres.three
  clear hn hd hs hres
  obtain ⟨sg, hsg⟩ : ∃ sg, decide (q.num < 0) = sg := ⟨_, rfl⟩
  rw [hsg] at y0
  clear hsg
  by_cases h0 : yl = 0
  · have hb : ((yl : Int) == 0) = true := by simp [h0]
    have hq0 : q = 0 := Rat.num_eq_zero.1 (hl.1 h0)
    have hr0 : r = 0 := by rw [← HE0.out, hq0, Rat.div_def]; simp
    have hb0 : bq = false := by rw [← hbq, hq0]; simp
    subst hb0
    have HR0 := Lib.hid hr0
    clear h0 hl hq0 hbq hr0
    go_wp2_with fail
    refine (refFromInt_any 0 W (by omega) (by omega)).mono ?_
    rintro e w3 ⟨v, rfl, hv, hb3⟩
    rw [quo_zero, ← HR0.out] at hv
    have hbb := below_next' HQ.out.2.2.2 hb3
    have hB5 := HQ.out.2.2.1.below hb3
    have HV := Lib.hid hv
    obtain ⟨zn, zl, zc, en, el, ec, rfl, _⟩ := hv
    clear k0 k1 k2 f0 f1 f2 y0 y1 y2 hb3
    obtain ⟨⟨k0, k1, k2⟩, f0, f1, f2⟩ := hB5.three
    have HF := Lib.hid (And.intro hbb hB5)
    clear hB5 hbb
    go_wp2
    obtain ⟨e1, e2⟩ := ratC_end HF.out.1 HF.out.2 HV.out
    exact bodyPost_ret (v := .tuple #[.agg #[.bool (decide (r.num < 0)), .slice zn zl zc, .slice en el ec], .bool false]) (by simp [results, Try.results68, go_sem, k0, k1, k2]) rfl ⟨_, rfl, e1, e2⟩
  · have hb : ((yl : Int) == 0) = false := by rw [beq_eq_false_iff_ne]; omega
    have hq0 : q ≠ 0 := fun e => h0 (hl.2 (by rw [e]; rfl))
    have hb0 : bq = true := by rw [← hbq, decide_eq_true hq0]
    subst hb0
    clear h0 hl hq0 hbq
    go_wp2_with fail
    clear k0 k1 k2 f0 f1 f2 y0 y1 y2
    refine region_flow_tail (Fe (divB K p q r)) (by rfl) (Fe.mono _) 31 16 [] (by rfl) (by kernel_rfl) (by kernel_rfl) (by kernel_rfl) (by kernel_rfl) (fun t ht => by cases ht) [2, 3] (by kernel_rfl) ?g0 (Fe.draw _) ?gsteps ?gfin
    case g0 =>
      intro t ht
      simp only [List.mem_cons, List.not_mem_nil, or_false] at ht
      rcases ht with rfl | rfl
      · exact HQ.out.1
      · exact HQ.out.2.1
    case gsteps =>
      have hk1 : K ≤ 100000 := Nat.le_trans HP.out.2.2.2 (by omega)
      have hk2 : K + K ≤ 80000 := by have := HP.out.2.2.2; omega
      exact ⟨flowN_of ((e_field rfl).1 rfl) (by decide), flowN_of (e_loadB rfl rfl) (by decide), flowN_of ((e_field rfl).1 rfl) (by decide), flowN_of (e_loadB rfl rfl) (by decide), flowN_of (e_bneq rfl rfl rfl) (by decide), flowN_of ((e_field rfl).2.1 rfl) (by decide), flowN_of (e_loadN rfl rfl) (by decide), flowN_of ((e_field rfl).2.2 rfl) (by decide), flowN_of (e_loadN rfl rfl) (by decide), flowN_of (e_mul rfl rfl rfl hk1) (by decide), flowN_of ((e_field rfl).2.2 rfl) (by decide), flowN_of (e_loadN rfl rfl) (by decide), flowN_of ((e_field rfl).2.1 rfl) (by decide), flowN_of (e_loadN rfl rfl) (by decide), flowN_of (e_mul rfl rfl rfl hk1) (by decide), flowN_of (e_build rfl (.inl rfl) (.inl rfl) rfl HE.out hk2 hk2) (by decide), trivial⟩
    intro a3 w3 hb3 hsz3 hdf3 hfacts hout _
    have f24 : RatC w3 (a3.tmps.getD 30 undef) r := hfacts 15 30 (by decide) rfl
    have e4' : a3.tmps.getD 4 undef = .pointer (some ⟨w.heap.size + 1 + 1, 0, none⟩) := hout 4 (free_of (by kernel_rfl))
    have hB := HQ.out.2.2.1.below hb3
    have hsz : a3.tmps.size = 31 := hsz3
    have hdd0 : a3.defers = [] := hdf3
    change runFrom _ _ _ 2 16 a3 w3
    simp only [runFrom]
    refine e_store (t := 4) (u := 30) rfl e4' hB f24 fun an' ln' cn' ad' ld' cd' hR => ?_
    refine tail_assign rfl ?_
    obtain ⟨⟨x0, x1, x2⟩, _⟩ := (hB.store3 (.bool (decide (r.num < 0))) (.slice an' ln' cn') (.slice ad' ld' cd')).three
    have hdd : (a3.put (some 5) (.bool true)).defers = [] := hdd0
    have e4'' : (a3.put (some 5) (.bool true)).tmps[4]?.getD undef = .pointer (some ⟨w.heap.size + 1 + 1, 0, none⟩) := by rw [← Array.getD_eq_getD_getElem?, put_getD _ _ _ _ (show (5 : Nat) < a3.tmps.size by rw [hsz]; decide)]; exact e4'
    have e5'' : (a3.put (some 5) (.bool true)).tmps[5]?.getD undef = .bool true := by rw [← Array.getD_eq_getD_getElem?, put_getD _ _ _ _ (show (5 : Nat) < a3.tmps.size by rw [hsz]; decide)]; rfl
    have HR := Lib.hid (ratC_end (below_next' HQ.out.2.2.2 hb3) hB hR)
    generalize a3.put (some 5) (.bool true) = a8 at *
    clear hfacts hout hb3 hB hR f24
    go_wp2_with fail
    exact bodyPost_ret (v := .tuple #[.agg #[.bool (decide (r.num < 0)), .slice an' ln' cn', .slice ad' ld' cd'], .bool true]) (by simp [results, Try.results68, go_sem, e4'', e5'', x0, x1, x2]) hdd ⟨_, rfl, HR.out.1, HR.out.2⟩

theorem refDiv_a {w : World} {x y : Value} {k : Nat} {p q : Rat} (hx : RatA w x k p) (hy : RatA w y k q) (hk : k ≤ 20000) : Calls Try.prog 68 #[x, y] w (QuoP p q w) := by
  obtain ⟨_, _, _, _, _, _, _, rfl, h1⟩ := hx.v
  obtain ⟨_, _, _, _, _, _, _, rfl, h2⟩ := hy.v
  exact refDiv_any _ _ _ _ _ _ _ _ _ _ _ _ _ _ k p q w h1 h2 hk

end Go.Proofs.Ytdpiclmjdcjajaa

/-
  The walks of the reference's Small and of ToInt.
-/
namespace Go.Proofs.Ytdpiclmjdcjajaa
open Go.RowKit Num

theorem quo_div (a b : Int) : quo a 1 / quo b 1 = quo a b := by
  have e1 : ∀ n : Int, quo n 1 = rat (decide (n < 0)) n.natAbs 1 := fun n => by
    unfold quo
    have : decide ((1 : Int) < 0) = false := rfl
    rw [this, Bool.bne_false]
    rfl
  rw [e1, e1, Rat.div_def, ← rat_inv, rat_mul, Nat.mul_one, Nat.one_mul]
  rfl

/-- The whole number that fits. -/
def toI (q : Rat) : Int × Bool := if q.den = 1 ∧ -9223372036854775808 ≤ q.num ∧ q.num ≤ 9223372036854775807 then (q.num, true) else (0, false)
def ToIntP (q : Rat) (w : World) (e : Ending) (w' : World) : Prop := e = .returned (.tuple #[.int .i64 (toI q).1, .bool (toI q).2]) ∧ Below w.heap.size w w'

theorem whole_num {neg : Bool} {n d : Nat} (hd : 0 < d) (h : n % d = 0) : (rat neg n d).num = if neg = true then -((n / d : Nat) : Int) else ((n / d : Nat) : Int) := by
  have hg : Nat.gcd n d = d := Nat.gcd_eq_right (Nat.dvd_of_mod_eq_zero h)
  have ha := rat_num_natAbs neg n d hd
  rw [hg] at ha
  rcases Nat.eq_zero_or_pos n with rfl | hn
  · rw [rat_zero_num]
    simp
  · have hs := rat_neg_iff neg n d hn hd
    generalize (rat neg n d).num = z at *
    generalize n / d = x at *
    cases neg
    · have : ¬ z < 0 := of_decide_eq_false hs
      simp
      omega
    · have : z < 0 := of_decide_eq_true hs
      simp
      omega

theorem wrap_back {x : Nat} (h : x ≤ 9223372036854775808) : IntKind.i64.wrap (-IntKind.i64.wrap (x : Int)) = -(x : Int) := by
  simp [IntKind.wrap, IntKind.bits, IntKind.signed]; omega

end Go.Proofs.Ytdpiclmjdcjajaa

/-
  The reference's walk of ToInt.
-/
namespace Go.Proofs.Ytdpiclmjdcjajaa
open Go.RowKit Num

section
variable {κ : Tmp → Ke} {G : Nat → Option Tmp} {d s t u c : Tmp} {ty : TypeId} {pos : String} {es : Array Edge} {k x y : Nat} {q : Rat} {g : Option (Nat × Bool)}

theorem eguard {j : Nat} {b : Bool} (hG : G j = some s) (hk : κ s = .con (.bool b)) : GuardYes (Fe κ) G (some (j, b)) :=
  ⟨s, hG, fun w v h => by unfold Fe at h; rw [hk] at h; exact h⟩
theorem eguard0 : GuardYes (Fe κ) G none := trivial
theorem g_step {o : Oper} (hg : GuardYes (Fe κ) G o.guard)
    (h : ∀ (a : Act) (w : World) (Q : Exit → Act → World → Prop), (∀ t, .tmp t ∈ o.op.operands.toList → (κ t).holds w (a.tmps.getD t undef)) → o.wp Try.prog a w (fun a' w' => ∃ v, a' = a.put o.dst v ∧ Below w.heap.size w w' ∧ ∀ d, o.dst = some d → (κ d).holds w' v) Q) :
    FlowStep Try.prog (Fe κ) G o := step_yes (F := Fe κ) (G := G) hg h
theorem g_skip {op : Op} {j : Nat} {b : Bool} (hG : G j = some s) (hs : κ s = .con undef ∨ κ s = .con (.bool (!b))) (hd : κ d = .con undef) : FlowStep Try.prog (Fe κ) G ⟨some d, op, ty, pos, es, some (j, b)⟩ := by
  intro a w Q hf
  have h := hf s (.inr ⟨(j, b), rfl, hG⟩)
  have hw : flowWanted G ⟨some d, op, ty, pos, es, some (j, b)⟩ (fun t => a.tmps.getD t undef) = false := by
    unfold flowWanted
    simp only [hG]
    rcases hs with hs | hs
    · have h' : a.tmps.getD s undef = undef := by unfold Fe at h; rw [hs] at h; exact h
      rw [h']
      rfl
    · have h' : a.tmps.getD s undef = .bool (!b) := by unfold Fe at h; rw [hs] at h; exact h
      rw [h']
      cases b <;> rfl
  exact ⟨fun e => by rw [hw] at e; (cases e), fun _ d' hd' => by cases hd'; unfold Fe; rw [hd]; rfl⟩

set_option maxRecDepth 100000 in
theorem g_fieldB {b : Bool} (hg : GuardYes (Fe κ) G g) (ht : κ t = .box k q) (hb : decide (q.num < 0) = b) (hd : κ d = .adB b) : FlowStep Try.prog (Fe κ) G ⟨some d, .fieldAddr 24 (.tmp t) 0, ty, pos, es, g⟩ := by
  refine g_step hg fun a w Q hf => ?_
  have h := hf t (by simp [Op.operands])
  rw [ht] at h
  obtain ⟨b', x0, x1, x2, e, c0, c1, c2, ⟨an, ln, cn, ad, ld, cd, hv, hn, hdn⟩, hs⟩ := (show (Kd.boxC k q).holds w _ from h)
  simp only [Value.agg.injEq, Array.mk.injEq, List.cons.injEq, and_true] at hv
  obtain ⟨rfl, rfl, rfl⟩ := hv
  unfold Oper.wp
  rw [(run_field _ _ _ _ _ _ _ _ b' e).1, Oper.upon_value]
  exact ⟨_, rfl, Below.refl _ _, fun d' hd' => by cases hd'; rw [hd, ← hb]; exact ⟨_, _, rfl, c0⟩⟩
set_option maxRecDepth 100000 in
theorem g_fieldN (hg : GuardYes (Fe κ) G g) (ht : κ t = .box k q) (hd : κ d = .adN k q.num.natAbs) : FlowStep Try.prog (Fe κ) G ⟨some d, .fieldAddr 24 (.tmp t) 1, ty, pos, es, g⟩ := by
  refine g_step hg fun a w Q hf => ?_
  have h := hf t (by simp [Op.operands])
  rw [ht] at h
  obtain ⟨b', x0, x1, x2, e, c0, c1, c2, ⟨an, ln, cn, ad, ld, cd, hv, hn, hdn⟩, hs⟩ := (show (Kd.boxC k q).holds w _ from h)
  simp only [Value.agg.injEq, Array.mk.injEq, List.cons.injEq, and_true] at hv
  obtain ⟨rfl, rfl, rfl⟩ := hv
  unfold Oper.wp
  rw [(run_field _ _ _ _ _ _ _ _ b' e).2.1, Oper.upon_value]
  exact ⟨_, rfl, Below.refl _ _, fun d' hd' => by cases hd'; rw [hd]; exact ⟨_, _, _, rfl, c1, hn, hs.1⟩⟩
theorem g_loadB {b : Bool} (hg : GuardYes (Fe κ) G g) (ht : κ t = .adB b) (hd : κ d = .con (.bool b)) : FlowStep Try.prog (Fe κ) G ⟨some d, .load 4 (.tmp t), ty, pos, es, g⟩ := by
  refine g_step hg fun a w Q hf => ?_
  have h := hf t (by simp [Op.operands])
  rw [ht] at h
  obtain ⟨g', j, e, hc⟩ := h
  unfold Oper.wp
  rw [run_load4 _ _ _ _ _ _ _ _ g' j b e hc, Oper.upon_value]
  exact ⟨_, rfl, Below.refl _ _, fun d' hd' => by cases hd'; rw [hd]; rfl⟩
theorem g_loadN (hg : GuardYes (Fe κ) G g) (ht : κ t = .adN k x) (hd : κ d = .nt k x) : FlowStep Try.prog (Fe κ) G ⟨some d, .load 22 (.tmp t), ty, pos, es, g⟩ := by
  refine g_step hg fun a w Q hf => ?_
  have h := hf t (by simp [Op.operands])
  rw [ht] at h
  obtain ⟨g', j, u, e, hc, hn, hx⟩ := h
  obtain ⟨ua, un, uc, rfl⟩ := hn.shape
  unfold Oper.wp
  rw [run_load22 _ _ _ _ _ _ _ _ g' j ua un uc e hc, Oper.upon_value]
  exact ⟨_, rfl, Below.refl _ _, fun d' hd' => by cases hd'; rw [hd]; exact ⟨hn, hx⟩⟩
theorem g_move (hg : GuardYes (Fe κ) G g) (hd : κ d = κ t) : FlowStep Try.prog (Fe κ) G ⟨some d, .move (.tmp t), ty, pos, es, g⟩ := by
  refine g_step hg fun a w Q hf => ?_
  have h := hf t (by simp [Op.operands])
  unfold Oper.wp
  have hr : Sem.run Try.prog (execOp a.eval ⟨some d, .move (.tmp t), ty, pos, es, g⟩) w = .ok (.value (a.tmps.getD t undef)) w := by go_simp
  rw [hr, Oper.upon_value]
  exact ⟨_, rfl, Below.refl _ _, fun d' hd' => by cases hd'; rw [hd]; exact h⟩
theorem g_un {op : Op} {v r : Value} (hg : GuardYes (Fe κ) G g) (hm : .tmp t ∈ op.operands.toList) (ht : κ t = .con v) (hd : κ d = .con r)
    (hrun : ∀ (a : Act) (w : World), a.tmps.getD t undef = v → Sem.run Try.prog (execOp a.eval ⟨some d, op, ty, pos, es, g⟩) w = .ok (.value r) w) : FlowStep Try.prog (Fe κ) G ⟨some d, op, ty, pos, es, g⟩ := by
  refine g_step hg fun a w Q hf => ?_
  have h := hf t hm
  rw [ht] at h
  unfold Oper.wp
  rw [hrun a w h, Oper.upon_value]
  exact ⟨_, rfl, Below.refl _ _, fun d' hd' => by cases hd'; rw [hd]; rfl⟩
theorem g_not {b : Bool} (hg : GuardYes (Fe κ) G g) (ht : κ t = .con (.bool b)) (hd : κ d = .con (.bool (!b))) : FlowStep Try.prog (Fe κ) G ⟨some d, .unOp .not 4 (.tmp t), ty, pos, es, g⟩ :=
  g_un hg (by simp [Op.operands]) ht hd fun a w h => by go_simp
theorem g_gtr0 {n : Int} {b : Bool} (hg : GuardYes (Fe κ) G g) (ht : κ t = .con (.int .i64 n)) (hd : κ d = .con (.bool b)) (hb : decide (0 < n) = b) : FlowStep Try.prog (Fe κ) G ⟨some d, .binOp .gtr 3 (.tmp t) (.const (.int .i64 0)) 3, ty, pos, es, g⟩ :=
  g_un hg (by simp [Op.operands]) ht hd fun a w h => by subst hb; go_simp
theorem g_eql0 {n : Int} {b : Bool} (hg : GuardYes (Fe κ) G g) (ht : κ t = .con (.int .i64 n)) (hd : κ d = .con (.bool b)) (hb : (n == 0) = b) : FlowStep Try.prog (Fe κ) G ⟨some d, .binOp .eql 3 (.tmp t) (.const (.int .i64 0)) 3, ty, pos, es, g⟩ :=
  g_un hg (by simp [Op.operands]) ht hd fun a w h => by subst hb; go_simp
/-- 'c && t'. -/
theorem g_and {v : Value} (hg : GuardYes (Fe κ) G g) (hc : κ c = .con (.bool true)) (hd : κ d = κ t) : FlowStep Try.prog (Fe κ) G ⟨some d, .pick (.tmp c) (.tmp t) (.const v), ty, pos, es, g⟩ := by
  refine g_step hg fun a w Q hf => ?_
  have h := hf t (by simp [Op.operands])
  have h' := hf c (by simp [Op.operands])
  rw [hc] at h'
  have h' : a.tmps.getD c undef = .bool true := h'
  unfold Oper.wp
  have hr : Sem.run Try.prog (execOp a.eval ⟨some d, .pick (.tmp c) (.tmp t) (.const v), ty, pos, es, g⟩) w = .ok (.value (a.tmps.getD t undef)) w := by go_simp
  rw [hr, Oper.upon_value]
  exact ⟨_, rfl, Below.refl _ _, fun d' hd' => by cases hd'; rw [hd]; exact h⟩
theorem g_and_no {v : Value} (hg : GuardYes (Fe κ) G g) (hc : κ c = .con (.bool false)) (hd : κ d = .con v) : FlowStep Try.prog (Fe κ) G ⟨some d, .pick (.tmp c) (.tmp t) (.const v), ty, pos, es, g⟩ :=
  g_un hg (by simp [Op.operands]) hc hd fun a w h => by go_simp
/-- 'c || t'. -/
theorem g_or {v : Value} (hg : GuardYes (Fe κ) G g) (hc : κ c = .con (.bool false)) (hd : κ d = κ t) : FlowStep Try.prog (Fe κ) G ⟨some d, .pick (.tmp c) (.const v) (.tmp t), ty, pos, es, g⟩ := by
  refine g_step hg fun a w Q hf => ?_
  have h := hf t (by simp [Op.operands])
  have h' := hf c (by simp [Op.operands])
  rw [hc] at h'
  have h' : a.tmps.getD c undef = .bool false := h'
  unfold Oper.wp
  have hr : Sem.run Try.prog (execOp a.eval ⟨some d, .pick (.tmp c) (.const v) (.tmp t), ty, pos, es, g⟩) w = .ok (.value (a.tmps.getD t undef)) w := by go_simp
  rw [hr, Oper.upon_value]
  exact ⟨_, rfl, Below.refl _ _, fun d' hd' => by cases hd'; rw [hd]; exact h⟩
theorem g_or_yes {v : Value} (hg : GuardYes (Fe κ) G g) (hc : κ c = .con (.bool true)) (hd : κ d = .con v) : FlowStep Try.prog (Fe κ) G ⟨some d, .pick (.tmp c) (.const v) (.tmp t), ty, pos, es, g⟩ :=
  g_un hg (by simp [Op.operands]) hc hd fun a w h => by go_simp
theorem g_cmp (hg : GuardYes (Fe κ) G g) (ht : κ t = .nt k x) (hu : κ u = .nt k y) (hd : κ d = .con (.int .i64 (cmpI x y))) : FlowStep Try.prog (Fe κ) G ⟨some d, .call ⟨.value (.func 88), #[.tmp t, .tmp u], #[22, 22]⟩, ty, pos, es, g⟩ := by
  refine g_step hg fun a w Q hf => ?_
  have h1 := hf t (by simp [Op.operands, Call.operands])
  have h2 := hf u (by simp [Op.operands, Call.operands])
  rw [ht] at h1
  rw [hu] at h2
  unfold Oper.wp
  rw [c2_55, Oper.upon_enter]
  refine (natCmp_nt h1.1 h2.1).mono ?_
  rintro e w' ⟨rfl, n, rfl⟩
  exact ⟨_, rfl, below_drewN (Below.refl _ _) n, fun d' hd' => by cases hd'; rw [hd]; rfl⟩
theorem g_limbs {n : Nat} (hg : GuardYes (Fe κ) G g) (hd : κ d = .nt k n) (h1 : n < 18446744073709551616) (h2 : n < pw k) : FlowStep Try.prog (Fe κ) G ⟨some d, .call ⟨.value (.func 90), #[.const (.int .u64 n)], #[90]⟩, ty, pos, es, g⟩ := by
  refine g_step hg fun a w Q _ => ?_
  have hr : Sem.run Try.prog (execOp a.eval ⟨some d, .call ⟨.value (.func 90), #[.const (.int .u64 n)], #[90]⟩, ty, pos, es, g⟩) w = .ok (.enter 90 #[.int .u64 n]) w := by go_simp
  unfold Oper.wp
  rw [hr, Oper.upon_enter]
  refine (limbs_any n h1 w).mono ?_
  rintro e w' ⟨v, rfl, hv, hb⟩
  exact ⟨_, rfl, hb, fun d' hd' => by cases hd'; rw [hd]; exact ⟨hv, h2⟩⟩
end

def toA (K : Nat) (p : Rat) : Tmp → Ke := fun t => ([.any, .box K p, .any, .any, .any, .any, .any, .any, .any, .any, .any, .any, .any, .any, .any, .any, .any, .adN K p.num.natAbs, .nt K p.num.natAbs, .nt K 9223372036854775808, .con (.int .i64 (cmpI ((p.num.natAbs : Nat) : Int) ((9223372036854775808 : Nat) : Int))), .con (.bool true), .con (.bool true), .con undef, .con undef, .con undef, .con undef, .con undef, .con undef, .con undef, .con undef, .con undef, .con undef, .con (.bool true)] : List Ke).getD t .any

def toN (K : Nat) (p : Rat) : Tmp → Ke := fun t => ([.any, .box K p, .any, .any, .any, .any, .any, .any, .any, .any, .any, .any, .any, .any, .any, .any, .any, .adN K p.num.natAbs, .nt K p.num.natAbs, .nt K 9223372036854775808, .con (.int .i64 (cmpI ((p.num.natAbs : Nat) : Int) ((9223372036854775808 : Nat) : Int))), .con (.bool false), .con (.bool false), .adB true, .con (.bool true), .con (.bool false), .con (.bool false), .con undef, .con undef, .con undef, .con undef, .con undef, .con (.bool false), .con (.bool false)] : List Ke).getD t .any

def toP (K : Nat) (p : Rat) (b : Bool) : Tmp → Ke := fun t => ([.any, .box K p, .any, .any, .any, .any, .any, .any, .any, .any, .any, .any, .any, .any, .any, .any, .any, .adN K p.num.natAbs, .nt K p.num.natAbs, .nt K 9223372036854775808, .con (.int .i64 (cmpI ((p.num.natAbs : Nat) : Int) ((9223372036854775808 : Nat) : Int))), .con (.bool false), .con (.bool false), .adB false, .con (.bool false), .con (.bool true), .con (.bool true), .adN K p.num.natAbs, .nt K p.num.natAbs, .nt K 9223372036854775808, .con (.int .i64 (cmpI ((p.num.natAbs : Nat) : Int) ((9223372036854775808 : Nat) : Int))), .con (.bool b), .con (.bool b), .con (.bool b)] : List Ke).getD t .any

end Go.Proofs.Ytdpiclmjdcjajaa
