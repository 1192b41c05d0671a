/-
  The reference's walks of Mul, Sub and Cmp.
-/
import Derived.Test.YtdpiclmjdcjajaaQ7
namespace Go.Proofs.Ytdpiclmjdcjajaa
open Go.RowKit Num

theorem ref_mul_eq (p q : Rat) : rat ((decide (p.num < 0)) != (decide (q.num < 0))) (p.num.natAbs * q.num.natAbs) (p.den * q.den) = p * q := by
  rw [← rat_mul, rat_self, rat_self]
theorem ref_div_eq (p q : Rat) : rat ((decide (p.num < 0)) != (decide (q.num < 0))) (p.num.natAbs * q.den) (p.den * q.num.natAbs) = p / q := by
  rw [← rat_mul, rat_self, rat_inv, rat_self, Rat.div_def]

/-- What the region of two numbers made canonical leaves. -/
structure CanonR (n g0 g1 g2 K : Nat) (p q : Rat) (w : World) (a : Act) (W : World) : Prop where
  e2 : a.tmps.getD 2 undef = .pointer (some ⟨g0, 0, none⟩)
  e3 : a.tmps.getD 3 undef = .pointer (some ⟨g1, 0, none⟩)
  e4 : a.tmps.getD 4 undef = .pointer (some ⟨g2, 0, none⟩)
  size : a.tmps.size = n
  defers : a.defers = []
  k2 : (Kd.boxC K p).holds W (.pointer (some ⟨g0, 0, none⟩))
  k3 : (Kd.boxC K q).holds W (.pointer (some ⟨g1, 0, none⟩))
  res : BoxV W w.heap.size g2 24 [.bool false, .slice none 0 0, .slice none 0 0]
  bel : Below w.heap.size w W

def mulA (K : Nat) (p q : Rat) : Tmp → Kd := fun t => ([.any, .any, .box K p, .box K q, .any, .rat K p, .ratC K p, .rat K q, .ratC K q] : List Kd).getD t .any

def mulB (K : Nat) (p q r : Rat) : Tmp → Ke := fun t => ([.any, .any, .box K p, .box K q, .any, .any, .any, .any, .any, .adB (decide (p.num < 0)), .con (.bool (decide (p.num < 0))), .adB (decide (q.num < 0)), .con (.bool (decide (q.num < 0))), .con (.bool ((decide (p.num < 0)) != (decide (q.num < 0)))), .adN K p.num.natAbs, .nt K p.num.natAbs, .adN K q.num.natAbs, .nt K q.num.natAbs, .nt (K + K) (p.num.natAbs * q.num.natAbs), .adN K p.den, .nt K p.den, .adN K q.den, .nt K q.den, .nt (K + K) (p.den * q.den), .ratC r] : List Ke).getD t .any

set_option maxRecDepth 100000 in
set_option maxHeartbeats 4000000 in
theorem refMul_any (na nb : Bool) (an ad bn bd : Option Addr) (n1 c1 n2 c2 m1 e1 m2 e2 k : Nat) (p q : Rat) (w : World) (hp : RatV w na an n1 c1 ad n2 c2 k p) (hq : RatV w nb bn m1 e1 bd m2 e2 k q) (hk : k ≤ 20000) :
    Calls Try.prog 45 #[.agg #[.bool na, .slice an n1 c1, .slice ad n2 c2], .agg #[.bool nb, .slice bn m1 e1, .slice bd m2 e2]] w (RatP (p * q) w) := by
  obtain ⟨r, hr⟩ : ∃ r, p * q = r := ⟨_, rfl⟩
  have HE := Lib.hid ((ref_mul_eq p q).trans hr)
  rw [hr]
  clear hr
  obtain ⟨K, hK⟩ : ∃ K, K = k + 1 := ⟨_, rfl⟩
  have HP := Lib.hid (And.intro hp (And.intro hq (And.intro hK (show K ≤ 20001 by omega))))
  clear hp hq hK hk
  go_enter Try.func45, Try.ntmps45
  go_wp2_with fail
  obtain ⟨W0, hW0⟩ : ∃ W0, ((w.alloc (.cells #[.bool na, .slice an n1 c1, .slice ad n2 c2] 24)).alloc (.cells #[.bool nb, .slice bn m1 e1, .slice bd m2 e2] 24)).alloc (.cells #[.bool false, .slice none 0 0, .slice none 0 0] 24) = W0 := ⟨_, rfl⟩
  have hbw : Below w.heap.size w W0 := by rw [← hW0]; exact below_alloc3 _ _ _ _
  obtain ⟨hb0, hb1, hb2⟩ := alloc3_box w [.bool na, .slice an n1 c1, .slice ad n2 c2] [.bool nb, .slice bn m1 e1, .slice bd m2 e2] [.bool false, .slice none 0 0, .slice none 0 0] 24
  simp only [hW0] at hb0 hb1 hb2
  rw [hW0]
  clear hW0
  have hk1 : (Kd.box K p).holds W0 (.pointer (some ⟨w.heap.size, 0, none⟩)) := by rw [HP.out.2.2.1]; exact box_any hb0 (HP.out.1.below hbw)
  have hk2 : (Kd.box K q).holds W0 (.pointer (some ⟨w.heap.size + 1, 0, none⟩)) := by rw [HP.out.2.2.1]; exact box_any hb1 (HP.out.2.1.below hbw)
  have HX := Lib.hid (And.intro hbw (And.intro hb0 (And.intro hb1 (And.intro hb2 (And.intro hk1 hk2)))))
  clear hbw hb0 hb1 hb2 hk1 hk2
  refine region_flow_tail (Fk (mulA K p q)) (by rfl) (fun t w w' v hb h => Kd.below hb h) 25 4 [] (by rfl) (by kernel_rfl) (by kernel_rfl) (by kernel_rfl) (by kernel_rfl) (fun t ht => by cases ht) [2, 3] (by kernel_rfl) ?h0 (fun t v h => Kd.draw _ _ _ h) ?steps ?fin
  case h0 =>
    intro t ht
    simp only [List.mem_cons, List.not_mem_nil, or_false] at ht
    rcases ht with rfl | rfl
    · exact HX.out.2.2.2.2.1
    · exact HX.out.2.2.2.2.2
  case steps =>
    have hk' : K ≤ 80000 := Nat.le_trans HP.out.2.2.2 (by omega)
    exact ⟨flowN_of (fl_load guard_none rfl rfl) (by decide), flowN_of (fl_refCanon guard_none (.inl rfl) rfl hk') (by decide), flowN_of (fl_load guard_none rfl rfl) (by decide), flowN_of (fl_refCanon guard_none (.inl rfl) rfl hk') (by decide), trivial⟩
  intro a w2 hb2 hsz hdf hfacts hout _
  have f6 : (Kd.ratC K p).holds w2 (a.tmps.getD 6 undef) := hfacts 1 6 (by decide) rfl
  have f8 : (Kd.ratC K q).holds w2 (a.tmps.getD 8 undef) := hfacts 3 8 (by decide) rfl
  have e2' : a.tmps.getD 2 undef = .pointer (some ⟨w.heap.size, 0, none⟩) := hout 2 (free_of (by kernel_rfl))
  have e3' : a.tmps.getD 3 undef = .pointer (some ⟨w.heap.size + 1, 0, none⟩) := hout 3 (free_of (by kernel_rfl))
  have e4' : a.tmps.getD 4 undef = .pointer (some ⟨w.heap.size + 1 + 1, 0, none⟩) := hout 4 (free_of (by kernel_rfl))
  have hsz' : a.tmps.size = 25 := hsz
  have hdf' : a.defers = [] := hdf
  change runFrom _ _ _ 2 4 a w2
  refine two_stores (t := 2) (t' := 3) (u := 6) (u' := 8) rfl rfl e2' e3' (HX.out.2.1.below hb2) (HX.out.2.2.1.below hb2) (noLimb_rat _ _ _ _ _ _ _) (noLimb_rat _ _ _ _ _ _ _) (by omega) f6.1 f8.1 fun W hT => ?_
  obtain ⟨⟨x0, y0, z0, hB0, hC0⟩, ⟨x1, y1, z1, hB1, hC1⟩, hbel, hkept⟩ := hT
  have HQ : Hid (CanonR 25 w.heap.size (w.heap.size + 1) (w.heap.size + 1 + 1) K p q w a W) :=
    Lib.hid ⟨e2', e3', e4', hsz', hdf', boxC_of hB0 hC0 f6.2, boxC_of hB1 hC1 f8.2, hkept _ _ (HX.out.2.2.2.1.below hb2) (by omega) (by omega), hbel w (below_next' HX.out.1 hb2)⟩
  clear hb2 hsz hdf hfacts hout f6 f8 e2' e3' e4' hsz' hdf' hB0 hC0 hB1 hC1 hbel hkept HX
  go_wp2_with fail
  refine region_flow_tail (Fe (mulB K p q r)) (by rfl) (Fe.mono _) 25 16 [] HQ.out.size (by kernel_rfl) (by kernel_rfl) (by kernel_rfl) (by kernel_rfl) (fun t ht => by cases ht) [2, 3] (by kernel_rfl) ?g0 (Fe.draw _) ?gsteps ?gfin
  case g0 =>
    intro t ht
    simp only [List.mem_cons, List.not_mem_nil, or_false] at ht
    rcases ht with rfl | rfl
    · show (Ke.box K p).holds W _
      rw [HQ.out.e2]
      exact HQ.out.k2
    · show (Ke.box K q).holds W _
      rw [HQ.out.e3]
      exact HQ.out.k3
  case gsteps =>
    have hk1 : K ≤ 100000 := Nat.le_trans HP.out.2.2.2 (by omega)
    have hk2 : K + K ≤ 80000 := by have := HP.out.2.2.2; omega
    exact ⟨flowN_of ((e_field rfl).1 rfl) (by decide), flowN_of (e_loadB rfl rfl) (by decide), flowN_of ((e_field rfl).1 rfl) (by decide), flowN_of (e_loadB rfl rfl) (by decide), flowN_of (e_bneq rfl rfl rfl) (by decide), flowN_of ((e_field rfl).2.1 rfl) (by decide), flowN_of (e_loadN rfl rfl) (by decide), flowN_of ((e_field rfl).2.1 rfl) (by decide), flowN_of (e_loadN rfl rfl) (by decide), flowN_of (e_mul rfl rfl rfl hk1) (by decide), flowN_of ((e_field rfl).2.2 rfl) (by decide), flowN_of (e_loadN rfl rfl) (by decide), flowN_of ((e_field rfl).2.2 rfl) (by decide), flowN_of (e_loadN rfl rfl) (by decide), flowN_of (e_mul rfl rfl rfl hk1) (by decide), flowN_of (e_build rfl (.inl rfl) (.inl rfl) rfl HE.out hk2 hk2) (by decide), trivial⟩
  intro a3 w3 hb3 hsz3 hdf3 hfacts hout _
  have f24 : RatC w3 (a3.tmps.getD 24 undef) r := hfacts 15 24 (by decide) rfl
  have e4' : a3.tmps.getD 4 undef = .pointer (some ⟨w.heap.size + 1 + 1, 0, none⟩) := (hout 4 (free_of (by kernel_rfl))).trans HQ.out.e4
  have hB := HQ.out.res.below hb3
  change runFrom _ _ _ 1 16 a3 w3
  simp only [runFrom]
  refine e_store (t := 4) (u := 24) rfl e4' hB f24 fun an' ln' cn' ad' ld' cd' hR => ?_
  obtain ⟨⟨x0, x1, x2⟩, _⟩ := (hB.store3 (.bool (decide (r.num < 0))) (.slice an' ln' cn') (.slice ad' ld' cd')).three
  have hdd : a3.defers = [] := by rw [hdf3]; exact HQ.out.defers
  have e4'' : a3.tmps[4]?.getD undef = .pointer (some ⟨w.heap.size + 1 + 1, 0, none⟩) := by rw [← Array.getD_eq_getD_getElem?]; exact e4'
  have HR := Lib.hid (ratC_end (below_next' HQ.out.bel hb3) hB hR)
  clear hfacts hout hb3 hB hR f24
  go_wp2_with fail
  exact bodyPost_ret (v := .agg #[.bool (decide (r.num < 0)), .slice an' ln' cn', .slice ad' ld' cd']) (by simp [results, Try.results45, go_sem, e4'', x0, x1, x2]) hdd ⟨_, rfl, HR.out.1, HR.out.2⟩

theorem refMul_a {w : World} {x y : Value} {k : Nat} {p q : Rat} (hx : RatA w x k p) (hy : RatA w y k q) (hk : k ≤ 20000) : Calls Try.prog 45 #[x, y] w (RatP (p * q) w) := by
  obtain ⟨_, _, _, _, _, _, _, rfl, h1⟩ := hx.v
  obtain ⟨_, _, _, _, _, _, _, rfl, h2⟩ := hy.v
  exact refMul_any _ _ _ _ _ _ _ _ _ _ _ _ _ _ k p q w h1 h2 hk

end Go.Proofs.Ytdpiclmjdcjajaa

/-
  The reference's walks of Add, Sub and Cmp.
-/
namespace Go.Proofs.Ytdpiclmjdcjajaa
open Go.RowKit Num

theorem ref_add_same {p q : Rat} (h : decide (p.num < 0) = decide (q.num < 0)) : rat (decide (p.num < 0)) (p.num.natAbs * q.den + q.num.natAbs * p.den) (p.den * q.den) = p + q := by
  rw [← rat_add_same _ p.den_pos q.den_pos, rat_self, h, rat_self]
theorem ref_add_more {p q : Rat} (h : decide (p.num < 0) ≠ decide (q.num < 0)) (hle : q.num.natAbs * p.den ≤ p.num.natAbs * q.den) : rat (decide (p.num < 0)) (p.num.natAbs * q.den - q.num.natAbs * p.den) (p.den * q.den) = p + q := by
  rw [← rat_add_more h p.den_pos q.den_pos hle, rat_self, rat_self]
theorem ref_add_less {p q : Rat} (h : decide (p.num < 0) ≠ decide (q.num < 0)) (hle : p.num.natAbs * q.den ≤ q.num.natAbs * p.den) : rat (decide (q.num < 0)) (q.num.natAbs * p.den - p.num.natAbs * q.den) (p.den * q.den) = p + q := by
  rw [← rat_add_less h p.den_pos q.den_pos hle, rat_self, rat_self]

theorem CanonR.next {n g0 g1 g2 K : Nat} {p q : Rat} {w W W' : World} {a a' : Act} (h : CanonR n g0 g1 g2 K p q w a W) (hb : Below W.heap.size W W') (hs : a'.tmps.size = a.tmps.size) (hd : a'.defers = a.defers)
    (h2 : a'.tmps.getD 2 undef = a.tmps.getD 2 undef) (h3 : a'.tmps.getD 3 undef = a.tmps.getD 3 undef) (h4 : a'.tmps.getD 4 undef = a.tmps.getD 4 undef) : CanonR n g0 g1 g2 K p q w a' W' :=
  ⟨h2.trans h.e2, h3.trans h.e3, h4.trans h.e4, hs.trans h.size, hd.trans h.defers, Kd.below hb h.k2, Kd.below hb h.k3, h.res.below hb, below_next' h.bel hb⟩

section
variable {κ : Tmp → Ke} {G : Nat → Option Tmp} {d t : Tmp} {ty : TypeId} {pos : String} {es : Array Edge}
theorem e_geq0 {n : Int} {b : Bool} (ht : κ t = .con (.int .i64 n)) (hd : κ d = .con (.bool b)) (hb : decide (0 ≤ n) = b) : FlowStep Try.prog (Fe κ) G ⟨some d, .binOp .geq 3 (.tmp t) (.const (.int .i64 0)) 3, ty, pos, es, none⟩ := by
  refine e_step rfl fun a w Q hf => ?_
  have h := hf t (by simp [Op.operands])
  rw [ht] at h
  have h' : a.tmps.getD t undef = .int .i64 n := h
  have hr : Sem.run Try.prog (execOp a.eval ⟨some d, .binOp .geq 3 (.tmp t) (.const (.int .i64 0)) 3, ty, pos, es, none⟩) w = .ok (.value (.bool (decide (0 ≤ n)))) w := by go_simp
  unfold Oper.wp
  rw [hr, Oper.upon_value, hb]
  exact ⟨_, rfl, Below.refl _ _, fun d' hd' => by cases hd'; rw [hd]; rfl⟩
end

def addA (K : Nat) (p q : Rat) : Tmp → Kd := fun t => ([.any, .any, .box K p, .box K q, .any, .any, .any, .any, .rat K p, .ratC K p, .rat K q, .ratC K q] : List Kd).getD t .any

def addB (K : Nat) (p q r : Rat) : Tmp → Ke := fun t => ([.any, .any, .box K p, .box K q, .any, .nt (K + K) (p.num.natAbs * q.den), .nt (K + K) (q.num.natAbs * p.den), .nt (K + K) (p.den * q.den), .any, .any, .any, .any, .adN K p.num.natAbs, .nt K p.num.natAbs, .adN K q.den, .nt K q.den, .nt (K + K) (p.num.natAbs * q.den), .adN K q.num.natAbs, .nt K q.num.natAbs, .adN K p.den, .nt K p.den, .nt (K + K) (q.num.natAbs * p.den), .adN K p.den, .nt K p.den, .adN K q.den, .nt K q.den, .nt (K + K) (p.den * q.den), .adB (decide (p.num < 0)), .con (.bool (decide (p.num < 0))), .adB (decide (q.num < 0)), .con (.bool (decide (q.num < 0))), .con (.bool ((decide (p.num < 0)) == (decide (q.num < 0)))), .adB (decide (p.num < 0)), .con (.bool (decide (p.num < 0))), .nt (K + K) (p.num.natAbs * q.den), .nt (K + K) (q.num.natAbs * p.den), .list (K + K + (K + K) + 1) ((p.num.natAbs * q.den) + (q.num.natAbs * p.den)), .nt (K + K) (p.den * q.den), .ratC r, .nt (K + K) (p.num.natAbs * q.den), .nt (K + K) (q.num.natAbs * p.den), .con (.int .i64 (cmpI (((p.num.natAbs * q.den) : Nat) : Int) (((q.num.natAbs * p.den) : Nat) : Int))), .con (.bool (decide (0 ≤ cmpI (((p.num.natAbs * q.den) : Nat) : Int) (((q.num.natAbs * p.den) : Nat) : Int)))), .adB (decide (p.num < 0)), .con (.bool (decide (p.num < 0))), .nt (K + K) (p.num.natAbs * q.den), .nt (K + K) (q.num.natAbs * p.den), .nt (K + K) ((p.num.natAbs * q.den) - (q.num.natAbs * p.den)), .nt (K + K) (p.den * q.den), .ratC r, .adB (decide (q.num < 0)), .con (.bool (decide (q.num < 0))), .nt (K + K) (q.num.natAbs * p.den), .nt (K + K) (p.num.natAbs * q.den), .nt (K + K) ((q.num.natAbs * p.den) - (p.num.natAbs * q.den)), .nt (K + K) (p.den * q.den), .ratC r] : List Ke).getD t .any

set_option maxRecDepth 100000 in
set_option maxHeartbeats 4000000 in
theorem refAdd_any (na nb : Bool) (an ad bn bd : Option Addr) (n1 c1 n2 c2 m1 e1 m2 e2 k : Nat) (p q : Rat) (w : World) (hp : RatV w na an n1 c1 ad n2 c2 k p) (hq : RatV w nb bn m1 e1 bd m2 e2 k q) (hk : k ≤ 15000) :
    Calls Try.prog 44 #[.agg #[.bool na, .slice an n1 c1, .slice ad n2 c2], .agg #[.bool nb, .slice bn m1 e1, .slice bd m2 e2]] w (RatP (p + q) w) := by
  obtain ⟨r, hr⟩ : ∃ r, p + q = r := ⟨_, rfl⟩
  have HE := Lib.hid hr
  rw [hr]
  clear hr
  obtain ⟨K, hK⟩ : ∃ K, K = k + 1 := ⟨_, rfl⟩
  have HP := Lib.hid (And.intro hp (And.intro hq (And.intro hK (show K ≤ 15001 by omega))))
  clear hp hq hK hk
  go_enter Try.func44, Try.ntmps44
  go_wp2_with fail
  obtain ⟨W0, hW0⟩ : ∃ W0, ((w.alloc (.cells #[.bool na, .slice an n1 c1, .slice ad n2 c2] 24)).alloc (.cells #[.bool nb, .slice bn m1 e1, .slice bd m2 e2] 24)).alloc (.cells #[.bool false, .slice none 0 0, .slice none 0 0] 24) = W0 := ⟨_, rfl⟩
  have hbw : Below w.heap.size w W0 := by rw [← hW0]; exact below_alloc3 _ _ _ _
  obtain ⟨hb0, hb1, hb2⟩ := alloc3_box w [.bool na, .slice an n1 c1, .slice ad n2 c2] [.bool nb, .slice bn m1 e1, .slice bd m2 e2] [.bool false, .slice none 0 0, .slice none 0 0] 24
  simp only [hW0] at hb0 hb1 hb2
  rw [hW0]
  clear hW0
  have hk1 : (Kd.box K p).holds W0 (.pointer (some ⟨w.heap.size, 0, none⟩)) := by rw [HP.out.2.2.1]; exact box_any hb0 (HP.out.1.below hbw)
  have hk2 : (Kd.box K q).holds W0 (.pointer (some ⟨w.heap.size + 1, 0, none⟩)) := by rw [HP.out.2.2.1]; exact box_any hb1 (HP.out.2.1.below hbw)
  have HX := Lib.hid (And.intro hbw (And.intro hb0 (And.intro hb1 (And.intro hb2 (And.intro hk1 hk2)))))
  clear hbw hb0 hb1 hb2 hk1 hk2
  have hk3 : K + K ≤ 100000 := by have := HP.out.2.2.2; omega
  have hk6 : K + K + (K + K) + 1 ≤ 80000 := by have := HP.out.2.2.2; omega
  have hk1 : K ≤ 100000 := Nat.le_trans HP.out.2.2.2 (by omega)
  have hk4 : K + K ≤ 80000 := by have := HP.out.2.2.2; omega
  refine region_flow_tail (Fk (addA K p q)) (by rfl) (fun t w w' v hb h => Kd.below hb h) 57 4 [] (by rfl) (by kernel_rfl) (by kernel_rfl) (by kernel_rfl) (by kernel_rfl) (fun t ht => by cases ht) [2, 3] (by kernel_rfl) ?h0 (fun t v h => Kd.draw _ _ _ h) ?steps ?fin
  case h0 =>
    intro t ht
    simp only [List.mem_cons, List.not_mem_nil, or_false] at ht
    rcases ht with rfl | rfl
    · exact HX.out.2.2.2.2.1
    · exact HX.out.2.2.2.2.2
  case steps =>
    have hk' : K ≤ 80000 := Nat.le_trans HP.out.2.2.2 (by omega)
    exact ⟨flowN_of (fl_load guard_none rfl rfl) (by decide), flowN_of (fl_refCanon guard_none (.inl rfl) rfl hk') (by decide), flowN_of (fl_load guard_none rfl rfl) (by decide), flowN_of (fl_refCanon guard_none (.inl rfl) rfl hk') (by decide), trivial⟩
  intro a w2 hb2 hsz hdf hfacts hout _
  have f6 : (Kd.ratC K p).holds w2 (a.tmps.getD 9 undef) := hfacts 1 9 (by decide) rfl
  have f8 : (Kd.ratC K q).holds w2 (a.tmps.getD 11 undef) := hfacts 3 11 (by decide) rfl
  have e2' : a.tmps.getD 2 undef = .pointer (some ⟨w.heap.size, 0, none⟩) := hout 2 (free_of (by kernel_rfl))
  have e3' : a.tmps.getD 3 undef = .pointer (some ⟨w.heap.size + 1, 0, none⟩) := hout 3 (free_of (by kernel_rfl))
  have e4' : a.tmps.getD 4 undef = .pointer (some ⟨w.heap.size + 1 + 1, 0, none⟩) := hout 4 (free_of (by kernel_rfl))
  have hsz' : a.tmps.size = 57 := hsz
  have hdf' : a.defers = [] := hdf
  change runFrom _ _ _ 2 4 a w2
  refine two_stores (t := 2) (t' := 3) (u := 9) (u' := 11) rfl rfl e2' e3' (HX.out.2.1.below hb2) (HX.out.2.2.1.below hb2) (noLimb_rat _ _ _ _ _ _ _) (noLimb_rat _ _ _ _ _ _ _) (by omega) f6.1 f8.1 fun W hT => ?_
  obtain ⟨⟨x0, y0, z0, hB0, hC0⟩, ⟨x1, y1, z1, hB1, hC1⟩, hbel, hkept⟩ := hT
  have HQ : Hid (CanonR 57 w.heap.size (w.heap.size + 1) (w.heap.size + 1 + 1) K p q w a W) :=
    Lib.hid ⟨e2', e3', e4', hsz', hdf', boxC_of hB0 hC0 f6.2, boxC_of hB1 hC1 f8.2, hkept _ _ (HX.out.2.2.2.1.below hb2) (by omega) (by omega), hbel w (below_next' HX.out.1 hb2)⟩
  clear hb2 hsz hdf hfacts hout f6 f8 e2' e3' e4' hsz' hdf' hB0 hC0 hB1 hC1 hbel hkept HX
  go_wp2_with fail
  have HQ2 := Lib.hid (And.intro HQ.out trivial)
  refine region_flow (Fe (addB K p q r)) (by rfl) (Fe.mono _) 57 HQ2.out.1.size (by kernel_rfl) (by kernel_rfl) [2, 3] (by kernel_rfl) ?g2 (Fe.draw _) ?s2 ?f2
  case g2 =>
    intro t ht
    simp only [List.mem_cons, List.not_mem_nil, or_false] at ht
    rcases ht with rfl | rfl
    · show (Ke.box K p).holds W _; rw [HQ2.out.1.e2]; exact HQ2.out.1.k2
    · show (Ke.box K q).holds W _; rw [HQ2.out.1.e3]; exact HQ2.out.1.k3
  case s2 =>
    exact ⟨(e_field rfl).2.1 rfl, e_loadN rfl rfl, (e_field rfl).2.2 rfl, e_loadN rfl rfl, e_mul rfl rfl rfl hk1, (e_field rfl).2.1 rfl, e_loadN rfl rfl, (e_field rfl).2.2 rfl, e_loadN rfl rfl, e_mul rfl rfl rfl hk1, e_assign rfl, e_assign rfl, trivial⟩
  intro a2 W2 hb hs hd hfacts hout
  have f5 : (Ke.nt (K + K) (p.num.natAbs * q.den)).holds W2 (a2.tmps.getD 5 undef) := hfacts 10 5 rfl
  have f6 : (Ke.nt (K + K) (q.num.natAbs * p.den)).holds W2 (a2.tmps.getD 6 undef) := hfacts 11 6 rfl
  have hc := HQ2.out.1.next hb hs hd (hout 2 (free_of (by kernel_rfl))) (hout 3 (free_of (by kernel_rfl))) (hout 4 (free_of (by kernel_rfl)))
  have H2 := Lib.hid (And.intro hc (And.intro f5 f6))
  clear hfacts hout hs hd hb f5 f6 hc
  go_upto_region 3 with (fail)
  refine region_flow_text (Fe (addB K p q r)) (Fe.mono _) 57 H2.out.1.size (by kernel_rfl) (by kernel_rfl) [2, 3] (by kernel_rfl) ?g3 ?s3 ?f3
  case g3 =>
    intro t ht
    simp only [List.mem_cons, List.not_mem_nil, or_false] at ht
    rcases ht with rfl | rfl
    · show (Ke.box K p).holds W2 _; rw [H2.out.1.e2]; exact H2.out.1.k2
    · show (Ke.box K q).holds W2 _; rw [H2.out.1.e3]; exact H2.out.1.k3
  case s3 =>
    exact ⟨(e_field rfl).2.2 rfl, e_loadN rfl rfl, (e_field rfl).2.2 rfl, e_loadN rfl rfl, e_mul rfl rfl rfl hk1, e_assign rfl, trivial⟩
  intro a3 W3 hb hs hd hfacts hout
  have f5 : (Ke.nt (K + K) (p.num.natAbs * q.den)).holds W3 (a3.tmps.getD 5 undef) := by rw [hout 5 (free_of (by kernel_rfl))]; exact (Ke.nt (K + K) (p.num.natAbs * q.den)).below hb H2.out.2.1
  have f6 : (Ke.nt (K + K) (q.num.natAbs * p.den)).holds W3 (a3.tmps.getD 6 undef) := by rw [hout 6 (free_of (by kernel_rfl))]; exact (Ke.nt (K + K) (q.num.natAbs * p.den)).below hb H2.out.2.2
  have f7 : (Ke.nt (K + K) (p.den * q.den)).holds W3 (a3.tmps.getD 7 undef) := hfacts 5 7 rfl
  have hc := H2.out.1.next hb hs hd (hout 2 (free_of (by kernel_rfl))) (hout 3 (free_of (by kernel_rfl))) (hout 4 (free_of (by kernel_rfl)))
  have H3 := Lib.hid (And.intro hc (And.intro f5 (And.intro f6 f7)))
  clear hfacts hout hs hd hb f5 f6 f7 hc
  go_upto_region 4 with (fail)
  refine region_flow_text (Fe (addB K p q r)) (Fe.mono _) 57 H3.out.1.size (by kernel_rfl) (by kernel_rfl) [2, 3] (by kernel_rfl) ?g4 ?s4 ?f4
  case g4 =>
    intro t ht
    simp only [List.mem_cons, List.not_mem_nil, or_false] at ht
    rcases ht with rfl | rfl
    · show (Ke.box K p).holds W3 _; rw [H3.out.1.e2]; exact H3.out.1.k2
    · show (Ke.box K q).holds W3 _; rw [H3.out.1.e3]; exact H3.out.1.k3
  case s4 =>
    exact ⟨(e_field rfl).1 rfl, e_loadB rfl rfl, (e_field rfl).1 rfl, e_loadB rfl rfl, e_beql rfl rfl rfl, trivial⟩
  intro a4 W4 hb hs hd hfacts hout
  have e31 : a4.tmps.getD 31 undef = .bool ((decide (p.num < 0)) == (decide (q.num < 0))) := hfacts 4 31 rfl
  have f5 : (Ke.nt (K + K) (p.num.natAbs * q.den)).holds W4 (a4.tmps.getD 5 undef) := by rw [hout 5 (free_of (by kernel_rfl))]; exact (Ke.nt (K + K) (p.num.natAbs * q.den)).below hb H3.out.2.1
  have f6 : (Ke.nt (K + K) (q.num.natAbs * p.den)).holds W4 (a4.tmps.getD 6 undef) := by rw [hout 6 (free_of (by kernel_rfl))]; exact (Ke.nt (K + K) (q.num.natAbs * p.den)).below hb H3.out.2.2.1
  have f7 : (Ke.nt (K + K) (p.den * q.den)).holds W4 (a4.tmps.getD 7 undef) := by rw [hout 7 (free_of (by kernel_rfl))]; exact (Ke.nt (K + K) (p.den * q.den)).below hb H3.out.2.2.2
  have hc := H3.out.1.next hb hs hd (hout 2 (free_of (by kernel_rfl))) (hout 3 (free_of (by kernel_rfl))) (hout 4 (free_of (by kernel_rfl)))
  have H4 := Lib.hid (And.intro hc (And.intro f5 (And.intro f6 f7)))
  clear hfacts hout hs hd hb f5 f6 f7 hc
  by_cases hst : (decide (p.num < 0)) = (decide (q.num < 0))
  · have e0 : a4.tmps.getD 31 undef = .bool true := by rw [e31, hst]; simp
    have HE5 := Lib.hid ((ref_add_same hst).trans HE.out)
    clear e31 hst
    go_wp2_with fail
    refine wp_cond_true e0 ?_
    go_wp2_with fail
    refine region_flow_tail (Fe (addB K p q r)) (by rfl) (Fe.mono _) 57 7 [] H4.out.1.size (by kernel_rfl) (by kernel_rfl) (by kernel_rfl) (by kernel_rfl) (fun t ht => by cases ht) [2, 5, 6, 7] (by kernel_rfl) ?g5 (Fe.draw _) ?s5 ?f5
    case g5 =>
      intro t ht
      simp only [List.mem_cons, List.not_mem_nil, or_false] at ht
      rcases ht with rfl | rfl | rfl | rfl
      · show (Ke.box K p).holds W4 _; rw [H4.out.1.e2]; exact H4.out.1.k2
      · exact H4.out.2.1
      · exact H4.out.2.2.1
      · exact H4.out.2.2.2
    case s5 =>
      exact ⟨flowN_of ((e_field rfl).1 rfl) (by decide), flowN_of (e_loadB rfl rfl) (by decide), flowN_of (e_move rfl) (by decide), flowN_of (e_move rfl) (by decide), flowN_of (e_add rfl rfl rfl hk3) (by decide), flowN_of (e_move rfl) (by decide), flowN_of (e_build rfl (.inr rfl) (.inl rfl) rfl HE5.out hk6 hk4) (by decide), trivial⟩
    intro a9 w9 hb9 hs9 hd9 hfacts hout _
    have f24 : RatC w9 (a9.tmps.getD 38 undef) r := hfacts 6 38 (by decide) rfl
    have e4' : a9.tmps.getD 4 undef = .pointer (some ⟨w.heap.size + 1 + 1, 0, none⟩) := (hout 4 (free_of (by kernel_rfl))).trans H4.out.1.e4
    have hB := H4.out.1.res.below hb9
    change runFrom _ _ _ 1 7 a9 w9
    simp only [runFrom]
    refine e_store (t := 4) (u := 38) rfl e4' hB f24 fun an' ln' cn' ad' ld' cd' hR => ?_
    obtain ⟨⟨x0, x1, x2⟩, _⟩ := (hB.store3 (.bool (decide (r.num < 0))) (.slice an' ln' cn') (.slice ad' ld' cd')).three
    have hdd : a9.defers = [] := by rw [hd9]; exact H4.out.1.defers
    have e4'' : a9.tmps[4]?.getD undef = .pointer (some ⟨w.heap.size + 1 + 1, 0, none⟩) := by rw [← Array.getD_eq_getD_getElem?]; exact e4'
    have HR := Lib.hid (ratC_end (below_next' H4.out.1.bel hb9) hB hR)
    clear hfacts hout hb9 hB hR f24
    go_wp2_with fail
    exact bodyPost_ret (v := .agg #[.bool (decide (r.num < 0)), .slice an' ln' cn', .slice ad' ld' cd']) (by simp [results, Try.results44, go_sem, e4'', x0, x1, x2]) hdd ⟨_, rfl, HR.out.1, HR.out.2⟩
  · have e0 : a4.tmps.getD 31 undef = .bool false := by rw [e31]; congr 1; rw [beq_eq_false_iff_ne]; exact hst
    have HST := Lib.hid hst
    clear e31 hst
    go_wp2_with fail
    refine wp_cond_false e0 (wp_skip ?_)
    go_upto_region 6 with (fail)
    refine region_flow_text (Fe (addB K p q r)) (Fe.mono _) 57 H4.out.1.size (by kernel_rfl) (by kernel_rfl) [5, 6] (by kernel_rfl) ?g6 ?s6 ?f6
    case g6 =>
      intro t ht
      simp only [List.mem_cons, List.not_mem_nil, or_false] at ht
      rcases ht with rfl | rfl
      · exact H4.out.2.1
      · exact H4.out.2.2.1
    case s6 =>
      exact ⟨e_move rfl, e_move rfl, e_cmp rfl rfl rfl, e_geq0 rfl rfl rfl, trivial⟩
    intro a6 W6 hb hs hd hfacts hout
    have e42 : a6.tmps.getD 42 undef = .bool (decide (0 ≤ cmpI (((p.num.natAbs * q.den) : Nat) : Int) (((q.num.natAbs * p.den) : Nat) : Int))) := hfacts 3 42 rfl
    have f5 : (Ke.nt (K + K) (p.num.natAbs * q.den)).holds W6 (a6.tmps.getD 5 undef) := by rw [hout 5 (free_of (by kernel_rfl))]; exact (Ke.nt (K + K) (p.num.natAbs * q.den)).below hb H4.out.2.1
    have f6 : (Ke.nt (K + K) (q.num.natAbs * p.den)).holds W6 (a6.tmps.getD 6 undef) := by rw [hout 6 (free_of (by kernel_rfl))]; exact (Ke.nt (K + K) (q.num.natAbs * p.den)).below hb H4.out.2.2.1
    have f7 : (Ke.nt (K + K) (p.den * q.den)).holds W6 (a6.tmps.getD 7 undef) := by rw [hout 7 (free_of (by kernel_rfl))]; exact (Ke.nt (K + K) (p.den * q.den)).below hb H4.out.2.2.2
    have hc := H4.out.1.next hb hs hd (hout 2 (free_of (by kernel_rfl))) (hout 3 (free_of (by kernel_rfl))) (hout 4 (free_of (by kernel_rfl)))
    have H6 := Lib.hid (And.intro hc (And.intro f5 (And.intro f6 f7)))
    clear hfacts hout hs hd hb f5 f6 f7 hc
    by_cases hle : (q.num.natAbs * p.den) ≤ (p.num.natAbs * q.den)
    · have e1 : a6.tmps.getD 42 undef = .bool true := by rw [e42, decide_eq_true (ge_case hle)]
      have HE7 := Lib.hid ((ref_add_more HST.out hle).trans HE.out)
      have HLE := Lib.hid hle
      clear e42 hle e0
      go_wp2_with fail
      refine wp_cond_true e1 ?_
      go_wp2_with fail
      refine region_flow_tail (Fe (addB K p q r)) (by rfl) (Fe.mono _) 57 7 [] H6.out.1.size (by kernel_rfl) (by kernel_rfl) (by kernel_rfl) (by kernel_rfl) (fun t ht => by cases ht) [2, 5, 6, 7] (by kernel_rfl) ?g7 (Fe.draw _) ?s7 ?f7
      case g7 =>
        intro t ht
        simp only [List.mem_cons, List.not_mem_nil, or_false] at ht
        rcases ht with rfl | rfl | rfl | rfl
        · show (Ke.box K p).holds W6 _; rw [H6.out.1.e2]; exact H6.out.1.k2
        · exact H6.out.2.1
        · exact H6.out.2.2.1
        · exact H6.out.2.2.2
      case s7 =>
        exact ⟨flowN_of ((e_field rfl).1 rfl) (by decide), flowN_of (e_loadB rfl rfl) (by decide), flowN_of (e_move rfl) (by decide), flowN_of (e_move rfl) (by decide), flowN_of (e_sub rfl rfl rfl HLE.out hk3) (by decide), flowN_of (e_move rfl) (by decide), flowN_of (e_build rfl (.inl rfl) (.inl rfl) rfl HE7.out hk4 hk4) (by decide), trivial⟩
      intro a9 w9 hb9 hs9 hd9 hfacts hout _
      have f24 : RatC w9 (a9.tmps.getD 49 undef) r := hfacts 6 49 (by decide) rfl
      have e4' : a9.tmps.getD 4 undef = .pointer (some ⟨w.heap.size + 1 + 1, 0, none⟩) := (hout 4 (free_of (by kernel_rfl))).trans H6.out.1.e4
      have hB := H6.out.1.res.below hb9
      change runFrom _ _ _ 1 7 a9 w9
      simp only [runFrom]
      refine e_store (t := 4) (u := 49) rfl e4' hB f24 fun an' ln' cn' ad' ld' cd' hR => ?_
      obtain ⟨⟨x0, x1, x2⟩, _⟩ := (hB.store3 (.bool (decide (r.num < 0))) (.slice an' ln' cn') (.slice ad' ld' cd')).three
      have hdd : a9.defers = [] := by rw [hd9]; exact H6.out.1.defers
      have e4'' : a9.tmps[4]?.getD undef = .pointer (some ⟨w.heap.size + 1 + 1, 0, none⟩) := by rw [← Array.getD_eq_getD_getElem?]; exact e4'
      have HR := Lib.hid (ratC_end (below_next' H6.out.1.bel hb9) hB hR)
      clear hfacts hout hb9 hB hR f24
      go_wp2_with fail
      exact bodyPost_ret (v := .agg #[.bool (decide (r.num < 0)), .slice an' ln' cn', .slice ad' ld' cd']) (by simp [results, Try.results44, go_sem, e4'', x0, x1, x2]) hdd ⟨_, rfl, HR.out.1, HR.out.2⟩
    · have hle' : (p.num.natAbs * q.den) ≤ (q.num.natAbs * p.den) := by omega
      have e1 : a6.tmps.getD 42 undef = .bool false := by rw [e42, cmpI_lt (by omega)]; rfl
      have HE8 := Lib.hid ((ref_add_less HST.out hle').trans HE.out)
      have HLE := Lib.hid hle'
      clear e42 hle hle' e0
      go_wp2_with fail
      refine wp_cond_false e1 (wp_skip ?_)
      go_wp2_with fail
      refine region_flow_tail (Fe (addB K p q r)) (by rfl) (Fe.mono _) 57 7 [] H6.out.1.size (by kernel_rfl) (by kernel_rfl) (by kernel_rfl) (by kernel_rfl) (fun t ht => by cases ht) [3, 5, 6, 7] (by kernel_rfl) ?g8 (Fe.draw _) ?s8 ?f8
      case g8 =>
        intro t ht
        simp only [List.mem_cons, List.not_mem_nil, or_false] at ht
        rcases ht with rfl | rfl | rfl | rfl
        · show (Ke.box K q).holds W6 _; rw [H6.out.1.e3]; exact H6.out.1.k3
        · exact H6.out.2.1
        · exact H6.out.2.2.1
        · exact H6.out.2.2.2
      case s8 =>
        exact ⟨flowN_of ((e_field rfl).1 rfl) (by decide), flowN_of (e_loadB rfl rfl) (by decide), flowN_of (e_move rfl) (by decide), flowN_of (e_move rfl) (by decide), flowN_of (e_sub rfl rfl rfl HLE.out hk3) (by decide), flowN_of (e_move rfl) (by decide), flowN_of (e_build rfl (.inl rfl) (.inl rfl) rfl HE8.out hk4 hk4) (by decide), trivial⟩
      intro a9 w9 hb9 hs9 hd9 hfacts hout _
      have f24 : RatC w9 (a9.tmps.getD 56 undef) r := hfacts 6 56 (by decide) rfl
      have e4' : a9.tmps.getD 4 undef = .pointer (some ⟨w.heap.size + 1 + 1, 0, none⟩) := (hout 4 (free_of (by kernel_rfl))).trans H6.out.1.e4
      have hB := H6.out.1.res.below hb9
      change runFrom _ _ _ 1 7 a9 w9
      simp only [runFrom]
      refine e_store (t := 4) (u := 56) rfl e4' hB f24 fun an' ln' cn' ad' ld' cd' hR => ?_
      obtain ⟨⟨x0, x1, x2⟩, _⟩ := (hB.store3 (.bool (decide (r.num < 0))) (.slice an' ln' cn') (.slice ad' ld' cd')).three
      have hdd : a9.defers = [] := by rw [hd9]; exact H6.out.1.defers
      have e4'' : a9.tmps[4]?.getD undef = .pointer (some ⟨w.heap.size + 1 + 1, 0, none⟩) := by rw [← Array.getD_eq_getD_getElem?]; exact e4'
      have HR := Lib.hid (ratC_end (below_next' H6.out.1.bel hb9) hB hR)
      clear hfacts hout hb9 hB hR f24
      go_wp2_with fail
      exact bodyPost_ret (v := .agg #[.bool (decide (r.num < 0)), .slice an' ln' cn', .slice ad' ld' cd']) (by simp [results, Try.results44, go_sem, e4'', x0, x1, x2]) hdd ⟨_, rfl, HR.out.1, HR.out.2⟩

theorem refAdd_a {w : World} {x y : Value} {k : Nat} {p q : Rat} (hx : RatA w x k p) (hy : RatA w y k q) (hk : k ≤ 15000) : Calls Try.prog 44 #[x, y] w (RatP (p + q) w) := by
  obtain ⟨_, _, _, _, _, _, _, rfl, h1⟩ := hx.v
  obtain ⟨_, _, _, _, _, _, _, rfl, h2⟩ := hy.v
  exact refAdd_any _ _ _ _ _ _ _ _ _ _ _ _ _ _ k p q w h1 h2 hk

end Go.Proofs.Ytdpiclmjdcjajaa

/-
  The reference's walks of Sub, Cmp and FromInt.
-/
namespace Go.Proofs.Ytdpiclmjdcjajaa
open Go.RowKit Num

section
variable {κ : Tmp → Kd} {G : Nat → Option Tmp} {d t u : Tmp} {ty : TypeId} {pos : String} {es : Array Edge} {g : Option (Nat × Bool)} {k1 k2 : Nat} {p q : Rat}
theorem fl_refAdd (hg : GuardYes (Fk κ) G g) (ht : (κ t).isRat k1 p) (hu : (κ u).isRat k2 q) (hd : κ d = .ratC (k1 + k2 + 1) (p + q)) (hk : k1 + k2 ≤ 15000) :
    FlowStep Try.prog (Fk κ) G ⟨some d, .call ⟨.value (.func 44), #[.tmp t, .tmp u], #[24, 24]⟩, ty, pos, es, g⟩ :=
  fl_call2 (fun a w => c2_36 a _ _ _ _ _ _ _ w) hg fun w x y hx hy => (refAdd_a (ht.a hx (Nat.le_add_right k1 k2)) (hu.a hy (Nat.le_add_left k2 k1)) hk).mono fun e w' ⟨v, he, hv, hb⟩ => ⟨v, he, by rw [hd]; exact ⟨hv, sz_add (ht.sz hx) (hu.sz hy)⟩, hb⟩
theorem fl_refMul (hg : GuardYes (Fk κ) G g) (ht : (κ t).isRat k1 p) (hu : (κ u).isRat k2 q) (hd : κ d = .ratC (k1 + k2 + 1) (p * q)) (hk : k1 + k2 ≤ 20000) :
    FlowStep Try.prog (Fk κ) G ⟨some d, .call ⟨.value (.func 45), #[.tmp t, .tmp u], #[24, 24]⟩, ty, pos, es, g⟩ :=
  fl_call2 (fun a w => c2_42 a _ _ _ _ _ _ _ w) hg fun w x y hx hy => (refMul_a (ht.a hx (Nat.le_add_right k1 k2)) (hu.a hy (Nat.le_add_left k2 k1)) hk).mono fun e w' ⟨v, he, hv, hb⟩ => ⟨v, he, by rw [hd]; exact ⟨hv, sz_mul (ht.sz hx) (hu.sz hy)⟩, hb⟩
end

/-- What the slots hold in Sub. -/
def subA (K : Nat) (p q : Rat) : Tmp → Kd := fun t => ([.any, .any, .box K p, .box K q, .any, .rat K p, .rat K q, .ratC K (-q), .ratC (K + K + 1) (p + -q)] : List Kd).getD t .any

set_option maxRecDepth 100000 in
set_option maxHeartbeats 4000000 in
theorem refSub_any (na nb : Bool) (an ad bn bd : Option Addr) (n1 c1 n2 c2 m1 e1 m2 e2 k : Nat) (p q : Rat) (w : World) (hp : RatV w na an n1 c1 ad n2 c2 k p) (hq : RatV w nb bn m1 e1 bd m2 e2 k q) (hk : k ≤ 7000) :
    Calls Try.prog 81 #[.agg #[.bool na, .slice an n1 c1, .slice ad n2 c2], .agg #[.bool nb, .slice bn m1 e1, .slice bd m2 e2]] w (RatP (p - q) w) := by
  obtain ⟨r, hr⟩ : ∃ r, p - q = r := ⟨_, rfl⟩
  have HE := Lib.hid ((Rat.sub_eq_add_neg p q).symm.trans hr)
  rw [hr]
  clear hr
  obtain ⟨K, hK⟩ : ∃ K, K = k + 1 := ⟨_, rfl⟩
  have HP := Lib.hid (And.intro hp (And.intro hq (And.intro hK (show K ≤ 7001 by omega))))
  clear hp hq hK hk
  go_enter Try.func81, Try.ntmps81
  go_wp2_with fail
  obtain ⟨W0, hW0⟩ : ∃ W0, ((w.alloc (.cells #[.bool na, .slice an n1 c1, .slice ad n2 c2] 24)).alloc (.cells #[.bool nb, .slice bn m1 e1, .slice bd m2 e2] 24)).alloc (.cells #[.bool false, .slice none 0 0, .slice none 0 0] 24) = W0 := ⟨_, rfl⟩
  have hbw : Below w.heap.size w W0 := by rw [← hW0]; exact below_alloc3 _ _ _ _
  obtain ⟨hb0, hb1, hb2⟩ := alloc3_box w [.bool na, .slice an n1 c1, .slice ad n2 c2] [.bool nb, .slice bn m1 e1, .slice bd m2 e2] [.bool false, .slice none 0 0, .slice none 0 0] 24
  simp only [hW0] at hb0 hb1 hb2
  rw [hW0]
  clear hW0
  have hk1 : (Kd.box K p).holds W0 (.pointer (some ⟨w.heap.size, 0, none⟩)) := by rw [HP.out.2.2.1]; exact box_any hb0 (HP.out.1.below hbw)
  have hk2 : (Kd.box K q).holds W0 (.pointer (some ⟨w.heap.size + 1, 0, none⟩)) := by rw [HP.out.2.2.1]; exact box_any hb1 (HP.out.2.1.below hbw)
  have HX := Lib.hid (And.intro hbw (And.intro hb0 (And.intro hb1 (And.intro hb2 (And.intro hk1 hk2)))))
  clear hbw hb0 hb1 hb2 hk1 hk2
  refine region_flow_tail (Fk (subA K p q)) (by rfl) (fun t w w' v hb h => Kd.below hb h) 9 4 [] (by rfl) (by kernel_rfl) (by kernel_rfl) (by kernel_rfl) (by kernel_rfl) (fun t ht => by cases ht) [2, 3] (by kernel_rfl) ?h0 (fun t v h => Kd.draw _ _ _ h) ?steps ?fin
  case h0 =>
    intro t ht
    simp only [List.mem_cons, List.not_mem_nil, or_false] at ht
    rcases ht with rfl | rfl
    · exact HX.out.2.2.2.2.1
    · exact HX.out.2.2.2.2.2
  case steps =>
    have hk' : K ≤ 80000 := Nat.le_trans HP.out.2.2.2 (by omega)
    have hk2 : K + K ≤ 15000 := by have := HP.out.2.2.2; omega
    exact ⟨flowN_of (fl_load guard_none rfl rfl) (by decide), flowN_of (fl_load guard_none rfl rfl) (by decide), flowN_of (fl_refNeg guard_none (.inl rfl) rfl hk') (by decide), flowN_of (fl_refAdd guard_none (.inl rfl) (.inr rfl) rfl hk2) (by decide), trivial⟩
  intro a9 w9 hb9 hs9 hd9 hfacts hout _
  have f24 : RatC w9 (a9.tmps.getD 8 undef) r := by rw [← HE.out]; exact (show (Kd.ratC (K + K + 1) (p + -q)).holds w9 _ from hfacts 3 8 (by decide) rfl).1
  have e4' : a9.tmps.getD 4 undef = .pointer (some ⟨w.heap.size + 1 + 1, 0, none⟩) := hout 4 (free_of (by kernel_rfl))
  have hB := HX.out.2.2.2.1.below hb9
  change runFrom _ _ _ 1 4 a9 w9
  simp only [runFrom]
  refine e_store (t := 4) (u := 8) rfl e4' hB f24 fun an' ln' cn' ad' ld' cd' hR => ?_
  obtain ⟨⟨x0, x1, x2⟩, _⟩ := (hB.store3 (.bool (decide (r.num < 0))) (.slice an' ln' cn') (.slice ad' ld' cd')).three
  have hdd : a9.defers = [] := by rw [hd9]
  have e4'' : a9.tmps[4]?.getD undef = .pointer (some ⟨w.heap.size + 1 + 1, 0, none⟩) := by rw [← Array.getD_eq_getD_getElem?]; exact e4'
  have HR := Lib.hid (ratC_end (below_next' HX.out.1 hb9) hB hR)
  clear hfacts hout hb9 hB hR f24
  go_wp2_with fail
  exact bodyPost_ret (v := .agg #[.bool (decide (r.num < 0)), .slice an' ln' cn', .slice ad' ld' cd']) (by simp [results, Try.results81, go_sem, e4'', x0, x1, x2]) hdd ⟨_, rfl, HR.out.1, HR.out.2⟩

theorem refSub_a {w : World} {x y : Value} {k : Nat} {p q : Rat} (hx : RatA w x k p) (hy : RatA w y k q) (hk : k ≤ 7000) : Calls Try.prog 81 #[x, y] w (RatP (p - q) w) := by
  obtain ⟨_, _, _, _, _, _, _, rfl, h1⟩ := hx.v
  obtain ⟨_, _, _, _, _, _, _, rfl, h2⟩ := hy.v
  exact refSub_any _ _ _ _ _ _ _ _ _ _ _ _ _ _ k p q w h1 h2 hk

theorem refSign_a {w : World} {x : Value} {k : Nat} {p : Rat} (hx : RatA w x k p) (hk : k ≤ 80000) : Calls Try.prog 65 #[x] w (SignP p w) := by
  obtain ⟨_, _, _, _, _, _, _, rfl, h1⟩ := hx.v
  exact refSign_any _ _ _ _ _ _ _ k p w h1 hk
/-- The order of two numbers. -/
def RefCmpP (p q : Rat) (w : World) (e : Ending) (w' : World) : Prop := e = .returned (.int .i64 (cmpQ p q)) ∧ Below w.heap.size w w'

theorem sgn_diff (x y : Rat) : sgn (x - y) = cmpQ x y := by
  rw [sgn_cmp0]
  unfold cmpQ
  have h1 : x - y < 0 ↔ x < y := by
    rw [Rat.sub_eq_add_neg, ← Rat.add_lt_add_right (c := y), Rat.add_assoc, Rat.neg_add_cancel, Rat.add_zero, Rat.zero_add]
  have h2 : 0 < x - y ↔ y < x := by
    rw [Rat.sub_eq_add_neg, ← Rat.add_lt_add_right (c := y), Rat.add_assoc, Rat.neg_add_cancel, Rat.add_zero, Rat.zero_add]
  simp only [h1, h2]

section
variable {κ : Tmp → Kd} {G : Nat → Option Tmp} {d t u : Tmp} {ty : TypeId} {pos : String} {es : Array Edge} {g : Option (Nat × Bool)} {k1 k2 : Nat} {p q : Rat}
theorem fl_refSub (hg : GuardYes (Fk κ) G g) (ht : (κ t).isRat k1 p) (hu : (κ u).isRat k2 q) (hd : κ d = .ratC (k1 + k2 + 1) (p - q)) (hk : k1 + k2 ≤ 7000) :
    FlowStep Try.prog (Fk κ) G ⟨some d, .call ⟨.value (.func 81), #[.tmp t, .tmp u], #[24, 24]⟩, ty, pos, es, g⟩ :=
  fl_call2 (fun a w => c2_38 a _ _ _ _ _ _ _ w) hg fun w x y hx hy => (refSub_a (ht.a hx (Nat.le_add_right k1 k2)) (hu.a hy (Nat.le_add_left k2 k1)) hk).mono fun e w' ⟨v, he, hv, hb⟩ => ⟨v, he, by rw [hd]; exact ⟨hv, sz_sub (ht.sz hx) (hu.sz hy)⟩, hb⟩
theorem fl_refSign {n : Int} (hg : GuardYes (Fk κ) G g) (ht : (κ t).isRat k1 p) (hd : κ d = .val (.int .i64 n)) (hn : sgn p = n) (hk : k1 ≤ 80000) :
    FlowStep Try.prog (Fk κ) G ⟨some d, .call ⟨.value (.func 65), #[.tmp t], #[24]⟩, ty, pos, es, g⟩ :=
  fl_call1 (fun a w => c1_28 a _ _ _ _ _ _ w) hg fun w x hx => (refSign_a (ht.a hx (Nat.le_refl _)) hk).mono fun e w' ⟨he, hb⟩ => ⟨_, he, by rw [hd, hn]; rfl, hb⟩
end

end Go.Proofs.Ytdpiclmjdcjajaa
