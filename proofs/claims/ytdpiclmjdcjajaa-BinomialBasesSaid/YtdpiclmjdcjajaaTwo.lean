import Derived.Test.YtdpiclmjdcjajaaR6
import Derived.Test.YtdpiclmjdcjajaaInv
namespace Go.Proofs.Ytdpiclmjdcjajaa
open Go.RowKit Num
/-! A frame with slots written. -/
theorem put_get (A : Act) (d : Tmp) (v : Value) (h : d < A.tmps.size) : (A.put (some d) v).tmps.getD d undef = v := by
  simp [Act.put, Array.getD_eq_getD_getElem?, h]
theorem put_other (A : Act) (d t : Tmp) (v : Value) (h : d ≠ t) : (A.put (some d) v).tmps.getD t undef = A.tmps.getD t undef := by
  simp [Act.put, Array.getD_eq_getD_getElem?, h]
theorem put_twice (A : Act) (d : Tmp) (v v' : Value) : (A.put (some d) v).put (some d) v' = A.put (some d) v' := by
  simp [Act.put]
theorem put_swap (A : Act) (d e : Tmp) (v v' : Value) (h : d ≠ e) : (A.put (some d) v).put (some e) v' = (A.put (some e) v').put (some d) v := by
  simp [Act.put, Array.setIfInBounds_comm v v' h]
theorem put_size (A : Act) (d : Option Tmp) (v : Value) : (A.put d v).tmps.size = A.tmps.size := by
  cases d <;> simp [Act.put]
theorem put_self (A : Act) (d : Tmp) : A.put (some d) (A.tmps.getD d undef) = A := by
  obtain ⟨t, ds⟩ := A
  simp only [Act.put, Act.mk.injEq, and_true]
  refine Array.ext_getElem? fun i => ?_
  rw [Array.getElem?_setIfInBounds]
  by_cases h : d = i
  · subst h
    by_cases hd : d < t.size
    · simp [hd, Array.getD_eq_getD_getElem?]
    · simp [hd]
  · simp [h]

/-- Six slots of a frame written. -/
def six (A : Act) (u1 u2 u3 u4 x y : Tmp) (a b c d e f : Value) : Act :=
  (((((A.put (some u1) a).put (some u2) b).put (some u3) c).put (some u4) d).put (some x) e).put (some y) f

theorem run_alloc (a : Act) (d : Option Tmp) (ty : TypeId) (pos : String) (es : Array Edge) (w : World) :
    Sem.run Try.prog (execOp a.eval ⟨d, .alloc 60, ty, pos, es, none⟩) w = .ok (.value (.pointer (some ⟨w.heap.size, 0, none⟩))) (w.alloc (.cells #[.bool false, .slice none 0 0, .slice none 0 0] 60)) := by
  go_simp

theorem run_load (a : Act) (d : Option Tmp) (ty : TypeId) (pos : String) (es : Array Edge) (w : World) (t : Tmp) (g : Nat) (x y z : Value)
    (ht : a.tmps.getD t undef = .pointer (some ⟨g, 0, none⟩)) (h0 : w.cell? ⟨g, 0, none⟩ = some x) (h1 : w.cell? ⟨g, 1, none⟩ = some y) (h2 : w.cell? ⟨g, 2, none⟩ = some z) :
    Sem.run Try.prog (execOp a.eval ⟨d, .load 24 (.tmp t), ty, pos, es, none⟩) w = .ok (.value (.agg #[x, y, z])) w := by
  go_simp

theorem run_call (a : Act) (d : Option Tmp) (ty : TypeId) (pos : String) (es : Array Edge) (w : World) (t : Tmp) (v : Value)
    (ht : a.tmps.getD t undef = v) :
    Sem.run Try.prog (execOp a.eval ⟨d, .call ⟨.value (.func 108), #[.tmp t], #[24]⟩, ty, pos, es, none⟩) w = .ok (.enter 108 #[v]) w := by
  go_simp

theorem run_store3 (a : Act) (d : Option Tmp) (ty : TypeId) (pos : String) (es : Array Edge) (w : World) (t u : Tmp) (B g : Nat) (b : Bool) (p q : Option Addr) (n c m e : Nat) (x' y' z' : Value)
    (ht : a.tmps.getD t undef = .pointer (some ⟨g, 0, none⟩)) (hu : a.tmps.getD u undef = .agg #[.bool b, .slice p n c, .slice q m e]) (hb : BoxV w B g 60 [x', y', z']) :
    Sem.run Try.prog (execOp a.eval ⟨d, .store 60 (.tmp t) (.tmp u), ty, pos, es, none⟩) w = .ok .skip (((w.setCell ⟨g, 0, none⟩ (.bool b)).setCell ⟨g, 1, none⟩ (.slice p n c)).setCell ⟨g, 2, none⟩ (.slice q m e)) := by
  obtain ⟨⟨h0, h1, h2⟩, f0, f1, f2⟩ := hb.three
  go_simp

/-- The operations of 'f, g := read(a), read(b)'. -/
def twoOps (t2 t3 u1 u2 u3 u4 x y : Tmp) (pos : String) : Array Oper :=
  #[⟨some u1, .load 24 (.tmp t2), 24, pos, #[], none⟩, ⟨some u2, .call ⟨.value (.func 108), #[.tmp u1], #[24]⟩, 60, pos, #[⟨0, .data⟩], none⟩,
    ⟨some u3, .load 24 (.tmp t3), 24, pos, #[], none⟩, ⟨some u4, .call ⟨.value (.func 108), #[.tmp u3], #[24]⟩, 60, pos, #[⟨2, .data⟩, ⟨1, .chain⟩], none⟩,
    ⟨some x, .alloc 60, 0, pos, #[], none⟩, ⟨some y, .alloc 60, 0, pos, #[], none⟩,
    ⟨none, .store 60 (.tmp x) (.tmp u2), 0, pos, #[⟨4, .data⟩, ⟨1, .data⟩, ⟨3, .chain⟩, ⟨0, .phase⟩, ⟨1, .phase⟩, ⟨2, .textOnly .lateStores⟩, ⟨3, .textOnly .lateStoresUnsure⟩, ⟨4, .phase⟩, ⟨5, .phase⟩], none⟩,
    ⟨none, .store 60 (.tmp y) (.tmp u4), 0, pos, #[⟨5, .data⟩, ⟨3, .data⟩, ⟨6, .chain⟩, ⟨0, .phase⟩, ⟨1, .phase⟩, ⟨2, .phase⟩, ⟨3, .phase⟩, ⟨4, .phase⟩, ⟨5, .phase⟩, ⟨6, .phase⟩], none⟩]

/-- What read has answered. -/
def FracV (w : World) (k : Nat) (q : Rat) (v : Value) : Prop :=
  ∃ neg an ln cn ad ld cd n d, v = .agg #[.bool neg, .slice an ln cn, .slice ad ld cd] ∧ Nt w (.slice an ln cn) n ∧ Nt w (.slice ad ld cd) d ∧ 0 < d ∧ n < pw k ∧ d < pw k ∧ rat neg n d = q

theorem FracV.below {w w' : World} {k : Nat} {q : Rat} {v : Value} (h : FracV w k q v) (hb : Below w.heap.size w w') : FracV w' k q v := by
  obtain ⟨neg, an, ln, cn, ad, ld, cd, n, d, e, h1, h2, h3⟩ := h
  exact ⟨neg, an, ln, cn, ad, ld, cd, n, d, e, h1.below hb, h2.below hb, h3⟩
theorem FracV.other {w w' : World} {k : Nat} {q : Rat} {v : Value} {B g t : Nat} {xs : List Value} (h : FracV w k q v) (hb : BoxV w B g t xs) (hx : NoLimb xs) (hg : w.grownBy w' (some g)) : FracV w' k q v := by
  obtain ⟨neg, an, ln, cn, ad, ld, cd, n, d, e, h1, h2, h3⟩ := h
  exact ⟨neg, an, ln, cn, ad, ld, cd, n, d, e, h1.other hb hx hg, h2.other hb hx hg, h3⟩

/-- A new variable: its block, and what lies in it. -/
def NewV (B : Nat) (w : World) (v : Value) (done : Bool) (x : Value) : Prop :=
  ∃ h ng an ln cn ad ld cd, v = .pointer (some ⟨h, 0, none⟩) ∧ BoxV w B h 60 [.bool ng, .slice an ln cn, .slice ad ld cd] ∧ (done = true → x = .agg #[.bool ng, .slice an ln cn, .slice ad ld cd])

theorem NewV.below {B : Nat} {w w' : World} {v x : Value} {b : Bool} (h : NewV B w v b x) (hb : Below w.heap.size w w') : NewV B w' v b x := by
  obtain ⟨g, ng, an, ln, cn, ad, ld, cd, e, h1, h2⟩ := h
  exact ⟨g, ng, an, ln, cn, ad, ld, cd, e, h1.below hb, h2⟩
theorem NewV.kept {B g : Nat} {w w' : World} {v x : Value} {b : Bool} (h : NewV B w v b x) (hne : v ≠ .pointer (some ⟨g, 0, none⟩)) (hg : w.grownBy w' (some g)) : NewV B w' v b x := by
  obtain ⟨h, ng, an, ln, cn, ad, ld, cd, e, h1, h2⟩ := h
  refine ⟨h, ng, an, ln, cn, ad, ld, cd, e, h1.kept hg ?_, h2⟩
  intro e'
  obtain rfl : h = g := by simpa using e'
  exact hne e

theorem NewV.redo {B : Nat} {w : World} {v x x' : Value} {b : Bool} (h : NewV B w v b x) (hn : b = true → False) : NewV B w v b x' := by
  obtain ⟨h, ng, an, ln, cn, ad, ld, cd, e, h1, h2⟩ := h
  exact ⟨h, ng, an, ln, cn, ad, ld, cd, e, h1, fun e => (hn e).elim⟩
theorem NewV.fresh {B : Nat} {w : World} {v x : Value} {b : Bool} (h : NewV B w v b x) : Value.pointer (some ⟨w.heap.size, 0, none⟩) ≠ v := by
  obtain ⟨h, ng, an, ln, cn, ad, ld, cd, rfl, h1, h2⟩ := h
  have := h1.block.2
  intro e
  simp only [Value.pointer.injEq, Option.some.injEq, Addr.mk.injEq, and_true] at e
  omega

/-- What has been done, and what is known of it. -/
structure Two (W : World) (k : Nat) (p q : Rat) (va vb : Value) (b0 b1 b2 b3 b4 b5 b6 b7 : Bool) (v1 v2 v3 v4 vx vy : Value) (w : World) : Prop where
  B : Below W.heap.size W w
  f0 : b0 = true → v1 = va
  f2 : b2 = true → v3 = vb
  f1 : b1 = true → FracV w k p v2
  f3 : b3 = true → FracV w k q v4
  f4 : b4 = true → NewV W.heap.size w vx b6 v2
  f5 : b5 = true → NewV W.heap.size w vy b7 v4
  ne : b4 = true → b5 = true → vx ≠ vy
  i6 : b6 = true → b1 = true ∧ b4 = true
  i7 : b7 = true → b3 = true ∧ b5 = true

theorem Two.below {W : World} {k : Nat} {p q : Rat} {va vb : Value} {b0 b1 b2 b3 b4 b5 b6 b7 : Bool} {v1 v2 v3 v4 vx vy : Value} {w w' : World} (h : Two W k p q va vb b0 b1 b2 b3 b4 b5 b6 b7 v1 v2 v3 v4 vx vy w) (hb : Below w.heap.size w w') : Two W k p q va vb b0 b1 b2 b3 b4 b5 b6 b7 v1 v2 v3 v4 vx vy w' :=
  ⟨below_next h.B hb, h.f0, h.f2, fun e => (h.f1 e).below hb, fun e => (h.f3 e).below hb, fun e => (h.f4 e).below hb, fun e => (h.f5 e).below hb, h.ne, h.i6, h.i7⟩

set_option maxHeartbeats 2000000 in
theorem two_reads {W : World} {k : Nat} {p q : Rat} {g g' Bg Bh : Nat} {x0 x1 x2 y0 y1 y2 : Value} (t2 t3 u1 u2 u3 u4 x y : Tmp) (pos : String) (id : Nat) (fr : Value → Value → Value → Value → Value → Value → Act)
    (hg : BoxV W Bg g 24 [x0, x1, x2]) (hg' : BoxV W Bh g' 24 [y0, y1, y2])
    (c1 : ∀ w, Below W.heap.size W w → Calls Try.prog 108 #[.agg #[x0, x1, x2]] w (ReadP p k w)) (c2 : ∀ w, Below W.heap.size W w → Calls Try.prog 108 #[.agg #[y0, y1, y2]] w (ReadP q k w))
    (e2 : ∀ a b c d e f, (fr a b c d e f).tmps.getD t2 undef = .pointer (some ⟨g, 0, none⟩)) (e3 : ∀ a b c d e f, (fr a b c d e f).tmps.getD t3 undef = .pointer (some ⟨g', 0, none⟩))
    (r1 : ∀ a b c d e f, (fr a b c d e f).tmps.getD u1 undef = a) (r2 : ∀ a b c d e f, (fr a b c d e f).tmps.getD u2 undef = b) (r3 : ∀ a b c d e f, (fr a b c d e f).tmps.getD u3 undef = c) (r4 : ∀ a b c d e f, (fr a b c d e f).tmps.getD u4 undef = d) (r5 : ∀ a b c d e f, (fr a b c d e f).tmps.getD x undef = e) (r6 : ∀ a b c d e f, (fr a b c d e f).tmps.getD y undef = f)
    (p1 : ∀ a b c d e f z, (fr a b c d e f).put (some u1) z = fr z b c d e f) (p2 : ∀ a b c d e f z, (fr a b c d e f).put (some u2) z = fr a z c d e f) (p3 : ∀ a b c d e f z, (fr a b c d e f).put (some u3) z = fr a b z d e f) (p4 : ∀ a b c d e f z, (fr a b c d e f).put (some u4) z = fr a b c z e f) (p5 : ∀ a b c d e f z, (fr a b c d e f).put (some x) z = fr a b c d z f) (p6 : ∀ a b c d e f z, (fr a b c d e f).put (some y) z = fr a b c d e z)
    {Q : Exit → Act → World → Prop} (v1 v2 v3 v4 vx vy : Value)
    (fin : ∀ v1 v2 v3 v4 vx vy w, Two W k p q (.agg #[x0, x1, x2]) (.agg #[y0, y1, y2]) true true true true true true true true v1 v2 v3 v4 vx vy w → Q .normal (fr v1 v2 v3 v4 vx vy) w) :
    (Code.region id (twoOps t2 t3 u1 u2 u3 u4 x y pos) true).wp Try.prog Q (fr v1 v2 v3 v4 vx vy) W := by
  refine region_inv (by rfl) (fun l a w => ∃ b0 b1 b2 b3 b4 b5 b6 b7, l = #[b0, b1, b2, b3, b4, b5, b6, b7] ∧ ∃ v1 v2 v3 v4 vx vy, a = fr v1 v2 v3 v4 vx vy ∧ Two W k p q (.agg #[x0, x1, x2]) (.agg #[y0, y1, y2]) b0 b1 b2 b3 b4 b5 b6 b7 v1 v2 v3 v4 vx vy w) ?_ ?_ ?_
  · exact ⟨false, false, false, false, false, false, false, false, rfl, v1, v2, v3, v4, vx, vy, rfl, (Below.refl _ _).drew, by simp, by simp, by simp, by simp, by simp, by simp, by simp, by simp, by simp⟩
  · rintro i l a w hi ⟨b0, b1, b2, b3, b4, b5, b6, b7, rfl, v1, v2, v3, v4, vx, vy, rfl, hT⟩
    have hlt : i < 8 := (ready_left hi).1
    rw [mem_ready] at hi
    have hi8 : i = 0 ∨ i = 1 ∨ i = 2 ∨ i = 3 ∨ i = 4 ∨ i = 5 ∨ i = 6 ∨ i = 7 := by omega
    rcases hi8 with rfl | rfl | rfl | rfl | rfl | rfl | rfl | rfl
    · obtain ⟨⟨m0, m1, m2⟩, _⟩ := (hg.below hT.B).three
      refine .inl ?_
      show (Oper.mk _ _ _ _ _ _).wp _ _ _ _ _
      unfold Oper.wp
      rw [run_load _ _ _ _ _ _ _ g x0 x1 x2 (e2 _ _ _ _ _ _) m0 m1 m2]
      simp only [Oper.upon, p1]
      exact ⟨true, b1, b2, b3, b4, b5, b6, b7, rfl, _, _, _, _, _, _, rfl, hT.B, fun _ => rfl, hT.f2, hT.f1, hT.f3, hT.f4, hT.f5, hT.ne, hT.i6, hT.i7⟩
    · simp [twoOps, Region.binds, Array.getD] at hi
      refine .inl ?_
      show (Oper.mk _ _ _ _ _ _).wp _ _ _ _ _
      unfold Oper.wp
      rw [run_call _ _ _ _ _ _ _ _ (r1 _ _ _ _ _ _), hT.f0 (by simp [hi])]
      simp only [Oper.upon]
      refine (c1 w hT.B).mono ?_
      rintro e w' ⟨ng, an, ln, cn, ad, ld, cd, n, d, rfl, k1, k2, k3, k4, k5, k6, hb⟩
      have hT' := hT.below hb
      have hF := (⟨ng, an, ln, cn, ad, ld, cd, n, d, rfl, k1, k2, k3, k4, k5, k6⟩ : FracV w' k _ _)
      simp only [p2]
      exact ⟨b0, true, b2, b3, b4, b5, b6, b7, rfl, _, _, _, _, _, _, rfl, hT'.B, fun _ => rfl, hT'.f2, fun _ => hF, hT'.f3, fun e => (hT'.f4 e).redo (fun e6 => by simp [(hT.i6 e6).1] at hi), hT'.f5, hT'.ne, fun e => ⟨rfl, (hT.i6 e).2⟩, hT'.i7⟩
    · obtain ⟨⟨m0, m1, m2⟩, _⟩ := (hg'.below hT.B).three
      refine .inl ?_
      show (Oper.mk _ _ _ _ _ _).wp _ _ _ _ _
      unfold Oper.wp
      rw [run_load _ _ _ _ _ _ _ g' y0 y1 y2 (e3 _ _ _ _ _ _) m0 m1 m2]
      simp only [Oper.upon, p3]
      exact ⟨b0, b1, true, b3, b4, b5, b6, b7, rfl, _, _, _, _, _, _, rfl, hT.B, hT.f0, fun _ => rfl, hT.f1, hT.f3, hT.f4, hT.f5, hT.ne, hT.i6, hT.i7⟩
    · simp [twoOps, Region.binds, Array.getD] at hi
      refine .inl ?_
      show (Oper.mk _ _ _ _ _ _).wp _ _ _ _ _
      unfold Oper.wp
      rw [run_call _ _ _ _ _ _ _ _ (r3 _ _ _ _ _ _), hT.f2 (by simp [hi])]
      simp only [Oper.upon]
      refine (c2 w hT.B).mono ?_
      rintro e w' ⟨ng, an, ln, cn, ad, ld, cd, n, d, rfl, k1, k2, k3, k4, k5, k6, hb⟩
      have hT' := hT.below hb
      have hF := (⟨ng, an, ln, cn, ad, ld, cd, n, d, rfl, k1, k2, k3, k4, k5, k6⟩ : FracV w' k _ _)
      simp only [p4]
      exact ⟨b0, b1, b2, true, b4, b5, b6, b7, rfl, _, _, _, _, _, _, rfl, hT'.B, hT'.f0, fun _ => rfl, hT'.f1, fun _ => hF, hT'.f4, fun e => (hT'.f5 e).redo (fun e7 => by simp [(hT.i7 e7).1] at hi), hT'.ne, hT'.i6, fun e => ⟨rfl, (hT.i7 e).2⟩⟩
    · simp [twoOps, Region.binds, Array.getD] at hi
      refine .inl ?_
      show (Oper.mk _ _ _ _ _ _).wp _ _ _ _ _
      unfold Oper.wp
      rw [run_alloc]
      simp only [Oper.upon, p5]
      have hT' := hT.below (below_alloc1 w (.cells #[.bool false, .slice none 0 0, .slice none 0 0] 60))
      have hN : BoxV (w.alloc (.cells #[.bool false, .slice none 0 0, .slice none 0 0] 60)) W.heap.size w.heap.size 60 [.bool false, .slice none 0 0, .slice none 0 0] := BoxV.new w W.heap.size 60 hT.B.size [.bool false, .slice none 0 0, .slice none 0 0]
      exact ⟨b0, b1, b2, b3, true, b5, b6, b7, rfl, _, _, _, _, _, _, rfl, hT'.B, hT'.f0, hT'.f2, hT'.f1, hT'.f3, fun _ => ⟨_, _, _, _, _, _, _, _, rfl, hN, fun e6 => by simp [(hT.i6 e6).2] at hi⟩, hT'.f5, fun _ e5 => (hT.f5 e5).fresh, fun e => ⟨(hT.i6 e).1, rfl⟩, hT'.i7⟩
    · simp [twoOps, Region.binds, Array.getD] at hi
      refine .inl ?_
      show (Oper.mk _ _ _ _ _ _).wp _ _ _ _ _
      unfold Oper.wp
      rw [run_alloc]
      simp only [Oper.upon, p6]
      have hT' := hT.below (below_alloc1 w (.cells #[.bool false, .slice none 0 0, .slice none 0 0] 60))
      have hN : BoxV (w.alloc (.cells #[.bool false, .slice none 0 0, .slice none 0 0] 60)) W.heap.size w.heap.size 60 [.bool false, .slice none 0 0, .slice none 0 0] := BoxV.new w W.heap.size 60 hT.B.size [.bool false, .slice none 0 0, .slice none 0 0]
      exact ⟨b0, b1, b2, b3, b4, true, b6, b7, rfl, _, _, _, _, _, _, rfl, hT'.B, hT'.f0, hT'.f2, hT'.f1, hT'.f3, hT'.f4, fun _ => ⟨_, _, _, _, _, _, _, _, rfl, hN, fun e7 => by simp [(hT.i7 e7).2] at hi⟩, fun e4 _ => (hT.f4 e4).fresh.symm, hT'.i6, fun e => ⟨(hT.i7 e).1, rfl⟩⟩
    · simp [twoOps, Region.binds, Array.getD] at hi
      obtain ⟨h, ng', an', ln', cn', ad', ld', cd', rfl, hb, hd⟩ := hT.f4 (by simp [hi])
      obtain ⟨ng, an, ln, cn, ad, ld, cd, n, d, rfl, k1, k2, k3⟩ := hT.f1 (by simp [hi])
      refine .inl ?_
      show (Oper.mk _ _ _ _ _ _).wp _ _ _ _ _
      unfold Oper.wp
      rw [run_store3 _ _ _ _ _ _ _ _ W.heap.size h ng an ad ln cn ld cd _ _ _ (r5 _ _ _ _ _ _) (r2 _ _ _ _ _ _) hb]
      simp only [Oper.upon, Act.put]
      have hG := grown_set3 w h (.bool ng) (.slice an ln cn) (.slice ad ld cd)
      have hs := hb.store3 (.bool ng) (.slice an ln cn) (.slice ad ld cd)
      have hL := noLimb_rat ng' an' ad' ln' cn' ld' cd'
      exact ⟨b0, b1, b2, b3, b4, b5, true, b7, rfl, _, _, _, _, _, _, rfl, below_set3 hT.B hb.block.1 _ _ _, hT.f0, hT.f2, fun e => (hT.f1 e).other hb hL hG, fun e => (hT.f3 e).other hb hL hG, fun _ => ⟨_, _, _, _, _, _, _, _, rfl, hs, fun _ => rfl⟩, fun e => (hT.f5 e).kept (fun e' => hT.ne (by simp [hi]) e e'.symm) hG, hT.ne, fun _ => ⟨by simp [hi], by simp [hi]⟩, hT.i7⟩
    · simp [twoOps, Region.binds, Array.getD] at hi
      obtain ⟨h, ng', an', ln', cn', ad', ld', cd', rfl, hb, hd⟩ := hT.f5 (by simp [hi])
      obtain ⟨ng, an, ln, cn, ad, ld, cd, n, d, rfl, k1, k2, k3⟩ := hT.f3 (by simp [hi])
      refine .inl ?_
      show (Oper.mk _ _ _ _ _ _).wp _ _ _ _ _
      unfold Oper.wp
      rw [run_store3 _ _ _ _ _ _ _ _ W.heap.size h ng an ad ln cn ld cd _ _ _ (r6 _ _ _ _ _ _) (r4 _ _ _ _ _ _) hb]
      simp only [Oper.upon, Act.put]
      have hG := grown_set3 w h (.bool ng) (.slice an ln cn) (.slice ad ld cd)
      have hs := hb.store3 (.bool ng) (.slice an ln cn) (.slice ad ld cd)
      have hL := noLimb_rat ng' an' ad' ln' cn' ld' cd'
      exact ⟨b0, b1, b2, b3, b4, b5, b6, true, rfl, _, _, _, _, _, _, rfl, below_set3 hT.B hb.block.1 _ _ _, hT.f0, hT.f2, fun e => (hT.f1 e).other hb hL hG, fun e => (hT.f3 e).other hb hL hG, fun e => (hT.f4 e).kept (fun e' => hT.ne e (by simp [hi]) e') hG, fun _ => ⟨_, _, _, _, _, _, _, _, rfl, hs, fun _ => rfl⟩, hT.ne, hT.i6, fun _ => ⟨by simp [hi], by simp [hi]⟩⟩
  · rintro l a w hr ⟨b0, b1, b2, b3, b4, b5, b6, b7, rfl, v1, v2, v3, v4, vx, vy, rfl, hT⟩
    have hn : ∀ i, ¬ i ∈ Region.ready .any (twoOps t2 t3 u1 u2 u3 u4 x y pos) #[b0, b1, b2, b3, b4, b5, b6, b7] := by rw [hr]; simp
    simp only [mem_ready] at hn
    have h0 := hn 0
    have h1 := hn 1
    have h2 := hn 2
    have h3 := hn 3
    have h4 := hn 4
    have h5 := hn 5
    have h6 := hn 6
    have h7 := hn 7
    simp [twoOps, Region.binds, Array.getD] at h0 h1 h2 h3 h4 h5 h6 h7
    obtain rfl : b0 = true := by simpa using h0
    obtain rfl : b2 = true := by simpa using h2
    obtain rfl : b4 = true := by simpa using h4
    obtain rfl : b5 = true := by simpa using h5
    obtain rfl : b1 = true := by simpa using h1
    obtain rfl : b3 = true := by simpa using h3
    obtain rfl : b6 = true := by simpa using h6
    obtain rfl : b7 = true := by simpa using h7
    exact fin _ _ _ _ _ _ _ hT

set_option maxHeartbeats 1000000 in
theorem two_reads_at {W : World} {k : Nat} {p q : Rat} {g g' Bg Bh : Nat} {x0 x1 x2 y0 y1 y2 : Value} (t2 t3 u1 u2 u3 u4 x y : Tmp) (pos : String) (id : Nat) {A : Act}
    (hn : [u1, u2, u3, u4, x, y].Nodup) (ht2 : t2 ∉ [u1, u2, u3, u4, x, y]) (ht3 : t3 ∉ [u1, u2, u3, u4, x, y]) (hs : ∀ t ∈ [u1, u2, u3, u4, x, y], t < A.tmps.size)
    (hg : BoxV W Bg g 24 [x0, x1, x2]) (hg' : BoxV W Bh g' 24 [y0, y1, y2])
    (c1 : ∀ w, Below W.heap.size W w → Calls Try.prog 108 #[.agg #[x0, x1, x2]] w (ReadP p k w)) (c2 : ∀ w, Below W.heap.size W w → Calls Try.prog 108 #[.agg #[y0, y1, y2]] w (ReadP q k w))
    (e2 : A.tmps.getD t2 undef = .pointer (some ⟨g, 0, none⟩)) (e3 : A.tmps.getD t3 undef = .pointer (some ⟨g', 0, none⟩))
    {Q : Exit → Act → World → Prop}
    (fin : ∀ v1 v2 v3 v4 vx vy w, Two W k p q (.agg #[x0, x1, x2]) (.agg #[y0, y1, y2]) true true true true true true true true v1 v2 v3 v4 vx vy w → Q .normal (six A u1 u2 u3 u4 x y v1 v2 v3 v4 vx vy) w) :
    (Code.region id (twoOps t2 t3 u1 u2 u3 u4 x y pos) true).wp Try.prog Q A W := by
  simp only [List.nodup_cons, List.mem_cons, List.not_mem_nil, or_false, not_or, List.nodup_nil, and_true, not_false_eq_true] at hn ht2 ht3
  obtain ⟨⟨n12, n13, n14, n1x, n1y⟩, ⟨n23, n24, n2x, n2y⟩, ⟨n34, n3x, n3y⟩, ⟨n4x, n4y⟩, nxy⟩ := hn
  obtain ⟨a1, a2, a3, a4, a5, a6⟩ := ht2
  obtain ⟨b1, b2, b3, b4, b5, b6⟩ := ht3
  have h0 : A = six A u1 u2 u3 u4 x y (A.tmps.getD u1 undef) (A.tmps.getD u2 undef) (A.tmps.getD u3 undef) (A.tmps.getD u4 undef) (A.tmps.getD x undef) (A.tmps.getD y undef) := by
    unfold six
    simp only [put_self]
  rw [h0]
  refine two_reads (k := k) (p := p) (q := q) t2 t3 u1 u2 u3 u4 x y pos id (six A u1 u2 u3 u4 x y) hg hg' c1 c2 ?_ ?_ ?_ ?_ ?_ ?_ ?_ ?_ ?_ ?_ ?_ ?_ ?_ ?_ _ _ _ _ _ _ fin <;> intros <;> unfold six
  · rw [put_other _ _ _ _ (Ne.symm a6), put_other _ _ _ _ (Ne.symm a5), put_other _ _ _ _ (Ne.symm a4), put_other _ _ _ _ (Ne.symm a3), put_other _ _ _ _ (Ne.symm a2), put_other _ _ _ _ (Ne.symm a1), e2]
  · rw [put_other _ _ _ _ (Ne.symm b6), put_other _ _ _ _ (Ne.symm b5), put_other _ _ _ _ (Ne.symm b4), put_other _ _ _ _ (Ne.symm b3), put_other _ _ _ _ (Ne.symm b2), put_other _ _ _ _ (Ne.symm b1), e3]
  · rw [put_other _ _ _ _ (Ne.symm n1y), put_other _ _ _ _ (Ne.symm n1x), put_other _ _ _ _ (Ne.symm n14), put_other _ _ _ _ (Ne.symm n13), put_other _ _ _ _ (Ne.symm n12), put_get _ _ _ (by first | (simp only [put_size]; exact hs _ (by simp)) | exact hs _ (by simp))]
  · rw [put_other _ _ _ _ (Ne.symm n2y), put_other _ _ _ _ (Ne.symm n2x), put_other _ _ _ _ (Ne.symm n24), put_other _ _ _ _ (Ne.symm n23), put_get _ _ _ (by first | (simp only [put_size]; exact hs _ (by simp)) | exact hs _ (by simp))]
  · rw [put_other _ _ _ _ (Ne.symm n3y), put_other _ _ _ _ (Ne.symm n3x), put_other _ _ _ _ (Ne.symm n34), put_get _ _ _ (by first | (simp only [put_size]; exact hs _ (by simp)) | exact hs _ (by simp))]
  · rw [put_other _ _ _ _ (Ne.symm n4y), put_other _ _ _ _ (Ne.symm n4x), put_get _ _ _ (by first | (simp only [put_size]; exact hs _ (by simp)) | exact hs _ (by simp))]
  · rw [put_other _ _ _ _ (Ne.symm nxy), put_get _ _ _ (by first | (simp only [put_size]; exact hs _ (by simp)) | exact hs _ (by simp))]
  · rw [put_get _ _ _ (by first | (simp only [put_size]; exact hs _ (by simp)) | exact hs _ (by simp))]
  · rw [put_swap _ y u1 _ _ (Ne.symm n1y), put_swap _ x u1 _ _ (Ne.symm n1x), put_swap _ u4 u1 _ _ (Ne.symm n14), put_swap _ u3 u1 _ _ (Ne.symm n13), put_swap _ u2 u1 _ _ (Ne.symm n12), put_twice]
  · rw [put_swap _ y u2 _ _ (Ne.symm n2y), put_swap _ x u2 _ _ (Ne.symm n2x), put_swap _ u4 u2 _ _ (Ne.symm n24), put_swap _ u3 u2 _ _ (Ne.symm n23), put_twice]
  · rw [put_swap _ y u3 _ _ (Ne.symm n3y), put_swap _ x u3 _ _ (Ne.symm n3x), put_swap _ u4 u3 _ _ (Ne.symm n34), put_twice]
  · rw [put_swap _ y u4 _ _ (Ne.symm n4y), put_swap _ x u4 _ _ (Ne.symm n4x), put_twice]
  · rw [put_swap _ y x _ _ (Ne.symm nxy), put_twice]
  · rw [put_twice]

/-- A fraction that read has made, behind a new variable. -/
def FracR (w : World) (k : Nat) (q : Rat) (s : Value) (wx : World) : Prop :=
  ∃ h neg an ln cn ad ld cd n d, s = .pointer (some ⟨h, 0, none⟩) ∧ BoxV wx w.heap.size h 60 [.bool neg, .slice an ln cn, .slice ad ld cd] ∧ Nt wx (.slice an ln cn) n ∧ Nt wx (.slice ad ld cd) d ∧ 0 < d ∧ n < pw k ∧ d < pw k ∧ rat neg n d = q

def TwoR (w : World) (k : Nat) (p q : Rat) (s t : Value) (wx : World) : Prop := FracR w k p s wx ∧ FracR w k q t wx ∧ Below w.heap.size w wx

theorem NewV.frac {W w : World} {k : Nat} {q : Rat} {v x : Value} (h : NewV W.heap.size w v true x) (hf : FracV w k q x) : FracR W k q v w := by
  obtain ⟨h, ng, an, ln, cn, ad, ld, cd, rfl, h1, h2⟩ := h
  obtain rfl := h2 rfl
  obtain ⟨neg, an', ln', cn', ad', ld', cd', n, d, e, h3, h4, h5⟩ := hf
  simp only [Value.agg.injEq, Array.mk.injEq, List.cons.injEq, Value.bool.injEq, Value.slice.injEq, and_true] at e
  obtain ⟨rfl, ⟨rfl, rfl, rfl⟩, rfl, rfl, rfl⟩ := e
  exact ⟨h, _, _, _, _, _, _, _, n, d, rfl, h1, h3, h4, h5⟩

theorem Two.out {W : World} {k : Nat} {p q : Rat} {va vb : Value} {v1 v2 v3 v4 vx vy : Value} {w : World} (h : Two W k p q va vb true true true true true true true true v1 v2 v3 v4 vx vy w) : TwoR W k p q vx vy w :=
  ⟨(h.f4 rfl).frac (h.f1 rfl), (h.f5 rfl).frac (h.f3 rfl), h.B⟩

end Go.Proofs.Ytdpiclmjdcjajaa
