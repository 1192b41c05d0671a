/-
  The reference's walk of guess: whatever the floats give, it answers a limb.
-/
import Derived.Test.YtdpiclmjdcjajaaQ1
import Derived.Laws.FloatArith
import Derived.Deep.Upon
import Derived.Test.YtdpiclmjdcjajaaR12
namespace Go.Proofs.Ytdpiclmjdcjajaa
open Go.RowKit Num

theorem float_any (op : BinOp) (hop : op = .add ∨ op = .mul ∨ op = .quo) : ∃ (R M : Nat × Nat × World → Nat), ∀ x y w, (binOp op 138 (.float .f64 x) (.float .f64 y)).run Try.prog w = .ok (.float .f64 (R (x, y, w))) (w.drewN (M (x, y, w))) := by
  have h : ∀ p : Nat × Nat × World, ∃ q : Nat × Nat, (binOp op 138 (.float .f64 p.1) (.float .f64 p.2.1)).run Try.prog p.2.2 = .ok (.float .f64 q.1) (p.2.2.drewN q.2) := by
    rintro ⟨x, y, w⟩
    cases hf : floatBits op .f64 x y with
    | some r => exact ⟨(r, 0), run_float_arith w op 138 .f64 x y r hf⟩
    | none =>
      rcases hop with rfl | rfl | rfl
      all_goals
        unfold floatBits at hf
        simp only at hf
        simp only [binOp, Op.floatArith, hf]
        by_cases hq : (Question.nanBits FloatKind.f64 x y).forced = true
        · exact ⟨(0, 0), by simp [hq, World.drewN]⟩
        · exact ⟨(_, 1), by simp [hq, World.drewN]; rfl⟩
  obtain ⟨f, hf⟩ := Classical.axiomOfChoice h
  exact ⟨fun p => (f p).1, fun p => (f p).2, fun x y w => hf (x, y, w)⟩

theorem toInt_any : ∃ (R : Nat × World → Int) (M : Nat × World → Nat), ∀ b w, (convert 138 90 (.float .f64 b)).run Try.prog w = .ok (.int .u64 (R (b, w))) (w.drewN (M (b, w))) ∧ 0 ≤ R (b, w) ∧ R (b, w) ≤ 18446744073709551615 := by
  have h : ∀ p : Nat × World, ∃ q : Int × Nat, (convert 138 90 (.float .f64 p.1)).run Try.prog p.2 = .ok (.int .u64 q.1) (p.2.drewN q.2) ∧ 0 ≤ q.1 ∧ q.1 ≤ 18446744073709551615 := by
    rintro ⟨b, w⟩
    have hr : ∀ r : Result Value, (Conv.floatToInt .f64 b .u64).run Try.prog w = r → (convert 138 90 (.float .f64 b)).run Try.prog w = r := by
      intro r hr
      rw [← hr]
      simp [convert, run_underlying Try.underlying138, run_underlying Try.underlying90]
    cases hf : floatToIntVal .f64 b .u64 with
    | some n =>
      have hw := bounds_u64 (floatToIntVal_wf hf)
      exact ⟨(n, 0), run_convert_float_int w 138 90 .f64 .u64 b n (by rw [Try.underlying138]; rfl) Try.underlying90 hf, hw.1, hw.2⟩
    | none =>
      have hany : ∃ z m, (do pure (.int IntKind.u64 (IntKind.u64.wrap (← choose (.floatToInt FloatKind.f64 b IntKind.u64)))) : Sem Value).run Try.prog w = .ok (.int .u64 z) (w.drewN m) ∧ 0 ≤ z ∧ z ≤ 18446744073709551615 := by
        by_cases hq : (Question.floatToInt FloatKind.f64 b IntKind.u64).forced = true
        · exact ⟨_, 0, by simp [hq, World.drewN]; rfl, by simp [IntKind.wrap, IntKind.bits, IntKind.signed], by simp [IntKind.wrap, IntKind.bits, IntKind.signed]⟩
        · exact ⟨_, 1, by simp [hq, World.drewN]; rfl, by simp only [IntKind.wrap, IntKind.bits, IntKind.signed]; simp; omega, by simp only [IntKind.wrap, IntKind.bits, IntKind.signed]; simp; omega⟩
      obtain ⟨z, m, hz, h1, h2⟩ := hany
      refine ⟨(z, m), hr _ ?_, h1, h2⟩
      rw [← hz]
      unfold floatToIntVal at hf
      unfold Conv.floatToInt
      split at hf
      · split at hf
        · cases hf
        · rename_i n he hb
          simp only [he, hb, if_false]
      · rename_i he
        simp only [he]
  obtain ⟨f, hf⟩ := Classical.axiomOfChoice h
  exact ⟨fun p => (f p).1, fun p => (f p).2, fun b w => hf (b, w)⟩

theorem wrap_in' {x y : Int} (h : x = y) (h1 : -9223372036854775808 ≤ y) (h2 : y ≤ 9223372036854775807) : IntKind.i64.wrap x = y := by
  rw [h]
  exact wrap_in h1 h2

/-- Some limb, and some draws. -/
def GuessP (w : World) (e : Ending) (w' : World) : Prop := ∃ d : Nat, d ≤ 999999999 ∧ e = .returned (.int .u64 d) ∧ ∃ m, w' = w.drewN m

theorem guess_small {z : Int} {w w' : World} (h : IntKind.u64.wrap z ≤ 999999999) (hw : ∃ m, w' = w.drewN m) : GuessP w (.returned (.int .u64 (IntKind.u64.wrap z))) w' := by
  have h0 : 0 ≤ IntKind.u64.wrap z := by
    simp only [IntKind.wrap, IntKind.bits, IntKind.signed]; simp; omega
  refine ⟨(IntKind.u64.wrap z).toNat, by omega, ?_, hw⟩
  rw [Int.toNat_of_nonneg h0]

set_option maxRecDepth 100000 in
set_option maxHeartbeats 4000000 in
theorem guess_any (a c : Option Addr) (n capa capb : Nat) (r b : List Nat) (rn : Nat) (w : World) (hr : Lim w (.slice a rn capa) r) (hb : Lim w (.slice c n capb) b) (hrn : r.length = rn) (hbn : b.length = n) (rlo : Lo r) (cb : Cano b) (h2 : 2 ≤ n) (hrb : rn ≤ n + 1) (hn : n ≤ 1000000) :
    Calls Try.prog 127 #[.slice a rn capa, .slice c n capb] w (GuessP w) := by
  obtain ⟨a', ca', e1, _, _, _, r4⟩ := hr
  obtain ⟨c', cb', e2, _, _, _, b4⟩ := hb
  simp only [Value.slice.injEq] at e1 e2
  obtain ⟨rfl, ez1, rfl⟩ := e1
  obtain ⟨rfl, ez2, rfl⟩ := e2
  clear ez1 ez2
  rw [hrn] at r4
  rw [hbn] at b4
  have hrn' := Lib.hid hrn
  clear hrn
  obtain ⟨m, rfl⟩ : ∃ m, n = m + 2 := ⟨n - 2, by omega⟩
  by_cases hlt : rn < m + 2
  · clear r4 b4 hbn
    go_enter Try.func127, Try.ntmps127
    go_wp2
    go_ret
    exact ⟨0, by omega, rfl, 0, rfl⟩
  · obtain ⟨bb, bo, rfl, bc1⟩ := b4 (m + 1) (by omega)
    obtain ⟨_, _, eb, bc0⟩ := b4 m (by omega)
    cases eb
    obtain ⟨ra, ro, rfl, rc1⟩ := r4 (m + 1) (by omega)
    obtain ⟨_, _, er, rc0⟩ := r4 m (by omega)
    cases er
    have l1 := cb.1 (m + 1)
    have l0 := cb.1 m
    have l3 := rlo (m + 1)
    have l2 := rlo m
    have lt : 0 < nth b (m + 1) := by
      rcases cb.2 with h | h
      · omega
      · rw [hbn] at h
        have : m + 2 - 1 = m + 1 := by omega
        rw [this] at h
        omega
    generalize nth b (m + 1) = x1 at *
    generalize nth b m = x0 at *
    generalize nth r (m + 1) = y1 at *
    generalize nth r m = y0 at *
    by_cases heq : rn = m + 2
    · subst heq
      have HD : Hid ((y1 * 1000000000 + y0) / (x1 * 1000000000 + x0) ≤ 999999999) := by
        show _ ≤ _
        exact Nat.le_of_lt_succ ((Nat.div_lt_iff_lt_mul (show 0 < x1 * 1000000000 + x0 by omega)).2 (by omega))
      clear r4 b4 hbn rlo cb
      go_enter Try.func127, Try.ntmps127
      go_wp2
      have hw1 : IntKind.i64.wrap ((m : Int) + 2 - 1) = (m : Int) + 1 := wrap_in' (by omega) (by omega) (by omega)
      have hw2 : IntKind.i64.wrap ((m : Int) + 2 - 2) = (m : Int) := wrap_in' (by omega) (by omega) (by omega)
      have hw3 : ((m : Int) + 1).toNat = m + 1 := by omega
      have hw4 : (0 : Int) ≤ (m : Int) + 1 := by omega
      go_quiet (fail)
      go_wp2
      go_quiet (fail)
      clear hw1 hw2 hw3 hw4
      go_wp2
      go_ret
      exact ⟨(y1 * 1000000000 + y0) / (x1 * 1000000000 + x0), HD.out, ret_int (by simp), _, by first | rw [World.drewN_drewN] | rfl⟩
    · obtain ⟨_, _, er, rc2⟩ := r4 (m + 2) (by omega)
      cases er
      have hne : ((rn : Int) == ((m : Int) + 2)) = false := by rw [beq_eq_false_iff_ne]; omega
      have l4 := rlo (m + 2)
      generalize nth r (m + 2) = y2 at *
      clear r4 b4 hbn rlo cb
      obtain ⟨R1, M1, hmul⟩ := float_any .mul (.inr (.inl rfl))
      obtain ⟨R2, M2, hadd⟩ := float_any .add (.inl rfl)
      obtain ⟨R3, M3, hquo⟩ := float_any .quo (.inr (.inr rfl))
      obtain ⟨R4, M4, hcv⟩ := toInt_any
      have hcv' := fun b w => (hcv b w).1
      have HB := Lib.hid hcv
      clear hcv
      go_enter Try.func127, Try.ntmps127
      go_wp2
      have hw1 : IntKind.i64.wrap ((m : Int) + 2 - 1) = (m : Int) + 1 := wrap_in' (by omega) (by omega) (by omega)
      have hw2 : IntKind.i64.wrap ((m : Int) + 2 - 2) = (m : Int) := wrap_in' (by omega) (by omega) (by omega)
      have hw3 : ((m : Int) + 1).toNat = m + 1 := by omega
      have hw4 : (0 : Int) ≤ (m : Int) + 1 := by omega
      go_quiet (fail)
      go_wp2
      go_quiet (fail)
      clear hw1 hw2 hw3 hw4
      go_wp2
      all_goals
        go_ret
        first
          | exact ⟨999999999, by omega, rfl, _, rfl⟩
          | exact guess_small (by assumption) ⟨_, rfl⟩

end Go.Proofs.Ytdpiclmjdcjajaa

/-
  The reference's walks of natDiv, natGcd and build.
-/
namespace Go.Proofs.Ytdpiclmjdcjajaa
open Go.RowKit Num

theorem run_append_none (w : World) (ty : TypeId) (b : Option Addr) (n c c' : Nat) (hle : n ≤ c) : (Builtin.append_ #[22, 22] ty #[.slice b n c, .slice none 0 c']).run Try.prog w = .ok (.slice b n c) w := by
  obtain ⟨i0, hi, hz0, hz1, hz2⟩ := info_parts Try.info58
  refine run_append_nothing w 22 22 ty 58 i0 Try.underlying22 hi b n c hle _ ⟨.inl ⟨58, Try.underlying22⟩, fun w' => ?_, ?_, ?_, by simp, by simp⟩
  · simp [Builtin.lenOf]
  · simp [Builtin.firstCells]
  · simp [Builtin.firstCells]

/-- 'append(own, v...)' of limbs, whatever slice v is. -/
theorem wpList_append_lim {w : World} {ops : Array Oper} {rest : List Oper} {o : Oper} {a : Act} {Q : Exit → Act → World → Prop} (hgd : o.guard = none) (s x : Operand)
    (ho : o.op = .call { callee := .builtin .append, args := #[s, x], argTypes := #[22, 22] }) (base : Nat) (sb : Option Addr) (n c : Nat) (L : List Nat) (hs : a.eval s = .slice sb n c) (hown : w.ownsRow base 58 1 (.slice sb n c) n (lims L)) (hnc : n ≤ c)
    (xa : Option Addr) (m xc : Nat) (l : List Nat) (hx : a.eval x = .slice xa m xc) (hm : l.length = m) (hl : Lim w (.slice xa m xc) l) (h63 : n + m ≤ 1000000) (hbase : base ≤ w.heap.size)
    (h : ∀ v' w', w'.ownsRow base 58 1 v' (n + m) (lims (L ++ l)) → w.grownBy w' (Value.slice sb n c).ownBlock → wpList Try.prog ops Q rest (a.put o.dst v') w') : wpList Try.prog ops Q (o :: rest) a w := by
  obtain ⟨i0, hi, hz0, hz1, hz2⟩ := info_parts Try.info58
  cases xa with
  | none =>
    have hm0 : m = 0 := by
      obtain ⟨a', c', e, _, _, _, h4⟩ := hl
      simp only [Value.slice.injEq] at e
      rcases Nat.eq_zero_or_pos m with h' | h'
      · exact h'
      · obtain ⟨_, _, e', _⟩ := h4 0 (by omega)
        rw [← e.1] at e'
        cases e'
    subst hm0
    obtain rfl : l = [] := List.eq_nil_of_length_eq_zero hm
    refine wpList_plain hgd fun K hK => ?_
    have hr := run_append_none w o.type sb n c xc hnc
    unfold Oper.wp execOp
    simp only [ho, resolve, invoke, builtin, Sem.run_bind, Sem.run_pure, Result.andThen_ok, List.map_toArray, List.map_cons, List.map_nil, hs, hx, hr]
    exact hK _ _ (h _ _ (by simpa using hown) (World.grownBy.refl _ _))
  | some ad =>
    obtain ⟨b, off, sp⟩ := ad
    by_cases hm0 : m = 0
    · subst hm0
      obtain rfl : l = [] := List.eq_nil_of_length_eq_zero hm
      refine wpList_append_own _ hgd s x 22 ho base 58 i0 (.int .u32 0) 1 4 Try.underlying22 hi hz0 hz1 hz2 rfl (by decide) (.slice sb n c) n (lims L) hs hown ⟨b, off, sp⟩ 0 xc [] hx rfl (by simp) (by simp) (by unfold maxLen; omega) (by omega) hbase fun v' w' h2 h3 _ => ?_
      exact h v' w' (by simpa using h2) h3
    · have hsp : sp = none := by
        obtain ⟨a', c', e, _, _, _, h4⟩ := hl
        simp only [Value.slice.injEq] at e
        obtain ⟨_, _, e', _⟩ := h4 0 (by omega)
        rw [← e.1] at e'
        cases e'
        rfl
      subst hsp
      refine wpList_append_own _ hgd s x 22 ho base 58 i0 (.int .u32 0) 1 4 Try.underlying22 hi hz0 hz1 hz2 rfl (by decide) (.slice sb n c) n (lims L) hs hown ⟨b, off, none⟩ m xc (lims l) hx (by rw [lims_length, hm]; omega) hl.cells (lims_oneCell l) (by unfold maxLen; omega) (by omega) hbase fun v' w' h2 h3 _ => ?_
      exact h v' w' (by rw [← lims_append]; exact h2) h3

/-- The quotient and the rest in memory. -/
def NatDivP (x y : Nat) (w : World) (e : Ending) (w' : World) : Prop := ∃ v r, e = .returned (.tuple #[v, r]) ∧ Nt w' v (x / y) ∧ Nt w' r (x % y) ∧ Below w.heap.size w w'

theorem natCmp_nt {w : World} {u v : Value} {x y : Nat} (hu : Nt w u x) (hv : Nt w v y) : Calls Try.prog 88 #[u, v] w (CmpP x y w) := by
  obtain ⟨l1, h1, c1, rfl⟩ := hu
  obtain ⟨l2, h2, c2, rfl⟩ := hv
  exact natCmp_any u v l1 l2 w h1 h2 c1 c2
theorem cut_nt {w : World} {u : Value} {x k : Nat} (hu : Nt w u x) (hx : x < pw k) (hk : k ≤ 1000000) : Calls Try.prog 97 #[u] w (NtP x w) := by
  obtain ⟨l1, h1, c1, rfl⟩ := hu
  have := cano_len c1 hx
  exact cut_any u l1 w h1 c1.1 (by omega)

/-- The call of guess, by what the slices denote. -/
theorem guess_nt {w : World} {u : Value} {ra : Option Addr} {rn rc : Nat} {c : Option Addr} {n capb : Nat} {R : Nat} {b : List Nat} (hr : Nt w (.slice ra rn rc) R) (hb : Lim w (.slice c n capb) b) (hbn : b.length = n) (cb : Cano b) (h2 : 2 ≤ n) (hRb : R < pw (n + 1)) (hn : n ≤ 1000000) (_hu : u = .slice ra rn rc) :
    Calls Try.prog 127 #[.slice ra rn rc, .slice c n capb] w (GuessP w) := by
  obtain ⟨l, h1, c1, rfl⟩ := hr
  have hl := cano_len c1 hRb
  have hln : l.length = rn := by
    obtain ⟨a', c', e, _⟩ := h1
    simp only [Value.slice.injEq] at e
    exact e.2.1.symm
  exact guess_any ra c n rc capb l b rn w h1 hb hln hbn c1.1 cb h2 (by omega) hn

theorem natDiv_less (u v : Value) (x y k : Nat) (w : World) (hu : Nt w u x) (hv : Nt w v y) (hx : x < pw k) (hk : k ≤ 100000) (h : x < y) : Calls Try.prog 100 #[u, v] w (NatDivP x y w) := by
  obtain ⟨ua, un, uc, rfl⟩ := hu.shape
  obtain ⟨va, vn, vc, rfl⟩ := hv.shape
  have hc := natCmp_nt hu hv
  rw [show CmpP x y w = fun e w' => e = .returned (.int .i64 (-1)) ∧ ∃ n, w' = w.drewN n by unfold CmpP; rw [cmpI_lt (by omega)]] at hc
  have HC := Lib.hid (And.intro hc (And.intro hu hx))
  have HR := Lib.hid (And.intro (Nat.div_eq_of_lt h) (Nat.mod_eq_of_lt h))
  clear hc hu hv hx h
  go_enter Try.func100, Try.ntmps100
  go_wp2_with fail
  refine HC.out.1.mono ?_
  rintro e w1 ⟨rfl, n, rfl⟩
  go_wp2_with fail
  refine (cut_nt (HC.out.2.1.below (below_drewN (Below.refl _ _) n)) HC.out.2.2 (by omega)).mono ?_
  rintro e w2 ⟨v2, rfl, hnt, hb⟩
  have HE := Lib.hid (And.intro hnt (below_next' (below_drewN (Below.refl w.heap.size w) n) hb))
  clear hnt hb
  go_wp2
  go_ret2
  exact ⟨_, _, rfl, by rw [HR.out.1]; exact Nt.nil _, by rw [HR.out.2]; exact HE.out.1, HE.out.2⟩

theorem ge_case {x y : Nat} (h : y ≤ x) : 0 ≤ cmpI (x : Int) (y : Int) := by
  unfold cmpI
  split <;> (try split) <;> omega

set_option maxHeartbeats 2000000 in
theorem natDiv_small (u : Value) (va : Option Addr) (vc : Nat) (bl : List Nat) (x k : Nat) (w : World) (hu : Nt w u x) (hv : Lim w (.slice va 1 vc) bl) (hb1 : bl.length = 1) (cb : Cano bl) (hx : x < pw k) (hk : k ≤ 100000) (h : val bl ≤ x) : Calls Try.prog 100 #[u, .slice va 1 vc] w (NatDivP x (val bl) w) := by
  obtain ⟨ua, un, uc, rfl⟩ := hu.shape
  obtain ⟨c, hc, hbl⟩ : ∃ c, nth bl 0 = c ∧ bl = [c] := by
    match bl, hb1 with
    | [c], _ => exact ⟨c, rfl, rfl⟩
  have hvb : val bl = c := by rw [hbl]; simp [val]
  have hc0 : 0 < c := by
    rcases cb.2 with h' | h'
    · omega
    · rw [hb1] at h'; have : nth bl (1 - 1) = c := hc; omega
  have hc1 : c < 1000000000 := by rw [← hc]; exact cb.1 0
  have hcmp := natCmp_nt hu (⟨bl, hv, cb, rfl⟩ : Nt w (.slice va 1 vc) (val bl))
  have hge := ge_case h
  obtain ⟨m, hm⟩ : ∃ m, cmpI (x : Int) (val bl : Int) = m := ⟨_, rfl⟩
  unfold CmpP at hcmp
  rw [hm] at hcmp hge
  obtain ⟨_, _, e, _, _, _, h4⟩ := hv
  simp only [Value.slice.injEq] at e
  obtain ⟨b, o, e', hcell⟩ := h4 0 (by omega)
  rw [← e.1] at e'
  subst e'
  rw [hc, Nat.add_zero] at hcell
  have HC := Lib.hid (And.intro hcmp (And.intro hu (And.intro hx hvb)))
  clear hcmp hu hx hvb hm h4 e hbl hc h cb hb1
  go_enter Try.func100, Try.ntmps100
  go_wp2_with fail
  refine HC.out.1.mono ?_
  rintro e w1 ⟨rfl, n, rfl⟩
  go_wp2_with fail
  have hb := below_drewN (Below.refl w.heap.size w) n
  obtain ⟨l, h1, cl, hl⟩ := HC.out.2.1.below hb
  have hln := cano_len cl (by rw [hl]; exact HC.out.2.2.1)
  have hs := natSmall_lim _ l c _ h1 cl.1 (by omega) hc0 hc1
  rw [hl] at hs
  refine hs.mono ?_
  rintro e w2 ⟨v2, rfl, hnt, hb2⟩
  have H2 := Lib.hid (And.intro hnt (below_next' hb hb2))
  have hmod := Nat.mod_lt x hc0
  clear hnt hb2 hs h1 cl hl hln hb
  go_wp2_with fail
  refine (limbs_any (x % c) (by omega) w2).mono ?_
  rintro e w3 ⟨v3, rfl, hnt, hb3⟩
  have H3 := Lib.hid (And.intro (H2.out.1.below hb3) (And.intro hnt (below_next' H2.out.2 hb3)))
  clear hnt hb3 H2 hmod
  go_wp2
  go_ret2
  exact ⟨_, _, rfl, by rw [HC.out.2.2.2]; exact H3.out.1, by rw [HC.out.2.2.2]; exact H3.out.2.1, H3.out.2.2⟩

theorem long_step {a L : List Nat} {j B R X X' d : Nat} (hj : j < a.length) (hL : j < L.length) (h : val (a.drop (j + 1)) = B * val (L.drop (j + 1)) + R) (hX : X = nth a j + 1000000000 * R) (hd : X = B * d + X') :
    val (a.drop j) = B * val ((L.set j d).drop j) + X' := by
  rw [val_drop a j hj, set_drop_val L j d hL, h, Nat.mul_add 1000000000, ← Nat.mul_assoc, Nat.mul_add B, ← Nat.mul_assoc, Nat.mul_comm 1000000000 B]
  omega

theorem Nt.off {w : World} {a : Option Addr} {n c x g j : Nat} {u : Value} (h : Nt w (.slice a n c) x) (hf : ∀ k, (Value.slice a n c).ownBlock = some k → g < k) : Nt (w.setCell ⟨g, j, none⟩ u) (.slice a n c) x := by
  obtain ⟨l, ⟨a', cap, e, h1, h2, h3, h4⟩, hc, hv⟩ := h
  refine ⟨l, ⟨a', cap, e, h1, h2, h3, fun i hi => ?_⟩, hc, hv⟩
  obtain ⟨b, o, rfl, hcell⟩ := h4 i hi
  refine ⟨b, o, rfl, ?_⟩
  simp only [Value.slice.injEq] at e
  obtain ⟨rfl, _, _⟩ := e
  have := hf b rfl
  rw [World.cell?_setCell_far _ _ _ _ (by simp; omega)]
  exact hcell

/-- The head of the outer loop. -/
def LongR (a : List Nat) (n B base g : Nat) (w : World) (s9 i : Value) (wr : World) : Prop :=
  ∃ (q : Int) (R : Nat) (L : List Nat) (ra : Option Addr) (rn rc : Nat), i = .int .i64 q ∧ -1 ≤ q ∧ q < n ∧ s9 = .slice ra rn rc ∧ Nt wr (.slice ra rn rc) R ∧ R < B ∧ Own wr base g n L ∧ Lo L ∧ val (a.drop (q + 1).toNat) = B * val (L.drop (q + 1).toNat) + R ∧ Below w.heap.size w wr

set_option maxRecDepth 100000 in
set_option maxHeartbeats 8000000 in
theorem natDiv_long (ua va : Option Addr) (n m uc vc k : Nat) (al bl : List Nat) (w : World) (hu : Lim w (.slice ua n uc) al) (hv : Lim w (.slice va (m + 2) vc) bl) (han : al.length = n) (hbn : bl.length = m + 2) (ca : Cano al) (cb : Cano bl) (hx : n ≤ k) (hk : k ≤ 90000) (h : val bl ≤ val al) :
    Calls Try.prog 100 #[.slice ua n uc, .slice va (m + 2) vc] w (NatDivP (val al) (val bl) w) := by
  have hcmp := natCmp_any _ _ al bl w hu hv ca cb
  have hge := ge_case h
  obtain ⟨cm, hm⟩ : ∃ cm, cmpI (val al : Int) (val bl : Int) = cm := ⟨_, rfl⟩
  unfold CmpP at hcmp
  rw [hm] at hcmp hge
  have hmn : m + 2 ≤ n := by
    rcases Nat.lt_or_ge n (m + 2) with h' | h'
    · have := can_len_lt ca cb (by omega)
      omega
    · exact h'
  obtain ⟨B, hB⟩ : ∃ B, val bl = B := ⟨_, rfl⟩
  have hBlt : B < pw (m + 2) := by rw [← hB, ← hbn]; exact val_lt cb.1
  have hBpos : 0 < B := by
    rw [← hB]
    rcases Nat.eq_zero_or_pos (val bl) with h' | h'
    · have := cb.zero.1 h'
      omega
    · exact h'
  rw [hB]
  have hnb : Nt w (.slice va (m + 2) vc) B := ⟨bl, hv, cb, hB⟩
  have HC := Lib.hid (And.intro hcmp (And.intro hu (And.intro hnb (And.intro hv (And.intro han (And.intro hbn (And.intro ca (And.intro cb (And.intro hB hBlt)))))))))
  have hbneq : ((m : Int) + 2 == 1) = false := by rw [beq_eq_false_iff_ne]; omega
  obtain ⟨i0, hi, hz0, hz1, hz2⟩ := info_parts Try.info58
  clear hcmp hu hnb hv hbn ca cb hB hm h han
  go_enter Try.func100, Try.ntmps100
  go_wp2_with fail
  refine HC.out.1.mono ?_
  rintro e w1 ⟨rfl, nd, rfl⟩
  go_wp2_with (at_make; refine wpList_make_full _ rfl _ _ 22 rfl w.heap.size 58 i0 (.int .u32 0) 1 Try.underlying22 hi hz0 hz1 _ _ _ _ n rfl rfl (by omega) (by omega) ?b2 ?b3 (Nat.le_refl _) ?_)
  case b2 => rw [hz2]; omega
  case b3 => unfold maxLen; omega
  intro w0 hown0 hgrow0
  have hown : Own w0 w.heap.size w.heap.size n (List.replicate n 0) := own_made hown0 (by omega)
  have hbel : Below w.heap.size w w0 := (below_drewN (Below.refl _ _) nd).grown hgrow0 (Nat.le_refl _) (fun k h => by cases h)
  have HO := Lib.hid (And.intro hown hbel)
  clear hown0 hgrow0 hi hz0 hz1 hz2 hown hbel
  go_wp2
  go_loopw [9, 10] (fun s9 i wr => LongR al n B w.heap.size w.heap.size w s9 i wr) (fun _ i _ => (intOf i + 1).toNat)
  case atStart =>
    refine ⟨_, 0, List.replicate n 0, none, 0, 0, rfl, by omega, by omega, rfl, Nt.nil _, hBpos, HO.out.1, lo_replicate _, ?_, HO.out.2⟩
    rw [List.drop_of_length_le (by rw [HC.out.2.2.2.2.1]; omega), List.drop_of_length_le (by simp)]
    simp [val]
  case round =>
    obtain ⟨q, R, L, ra, rn, rc, rfl, hq1, hq2, rfl, hR, hRB, hown, hlo, hval, hbel⟩ := hrel
    by_cases hq : q = -1
    · subst hq
      have H := Lib.hid (And.intro hR (And.intro hRB (And.intro hown (And.intro hlo (And.intro hval hbel)))))
      clear hR hRB hown hlo hval hbel
      go_wp2_with fail
      obtain ⟨hR, hRB, hown, hlo, hval, hbel⟩ := H.out
      refine (cut_any _ L _ hown.lim hlo (by rw [hown.len]; omega)).mono ?_
      rintro e w5 ⟨v5, rfl, hnt, hb5⟩
      have e1 : val al = B * val L + R := by simpa using hval
      have e2 : val al / B = val L := by rw [e1, Nat.mul_add_div hBpos, Nat.div_eq_of_lt hRB, Nat.add_zero]
      have e3 : val al % B = R := by rw [e1, Nat.mul_add_mod, Nat.mod_eq_of_lt hRB]
      have HE := Lib.hid (And.intro e2 (And.intro e3 (And.intro hnt (And.intro (hR.below hb5) (below_next' hbel hb5)))))
      clear hR hRB hown hlo hval hbel hnt hb5 e1 e2 e3
      go_wp2
      go_ret2
      exact ⟨_, _, rfl, by rw [HE.out.1]; exact HE.out.2.2.1, by rw [HE.out.2.1]; exact HE.out.2.2.2.1, HE.out.2.2.2.2⟩
    · obtain ⟨j, rfl⟩ : ∃ j : Nat, q = j := ⟨q.toNat, by omega⟩
      have hjn : j < n := by omega
      rw [toNat_up] at hval
      obtain ⟨pa, po, rfl, hcell⟩ : ∃ b o, ua = some ⟨b, o, none⟩ ∧ w.cell? ⟨b, o + j, none⟩ = some (.int .u32 (nth al j)) := by
        obtain ⟨_, _, e, _, _, _, h4⟩ := HC.out.2.1
        simp only [Value.slice.injEq] at e
        obtain ⟨rfl, _, _⟩ := e
        exact h4 j (by rw [HC.out.2.2.2.2.1]; exact hjn)
      have hcell := (hbel.cell (World.block_lt_of_cell? w _ hcell)).trans hcell
      have hxj : nth al j < 1000000000 := HC.out.2.2.2.2.2.2.1.1 j
      obtain ⟨x, hxe⟩ : ∃ x, nth al j = x := ⟨_, rfl⟩
      rw [hxe] at hcell hxj
      obtain ⟨rl, hrl, crl, hrv⟩ := hR
      have hrlen := cano_len crl (by rw [hrv]; exact Nat.lt_trans hRB hBlt)
      have hrln : rl.length = rn := by
        obtain ⟨_, _, e, _⟩ := hrl
        simp only [Value.slice.injEq] at e
        exact e.2.1.symm
      rw [hrln] at hrlen
      have hs := hbel.size
      have H := Lib.hid (And.intro hxe (And.intro hrv (And.intro crl (And.intro hRB (And.intro hown (And.intro hlo (And.intro hval (And.intro hbel (And.intro hrl hrln)))))))))
      clear hxe hrv crl hRB hown hlo hval hbel hrl hrln
      have hown1 : (wr.alloc (.cells #[.int .u32 (x : Int)] 58)).ownsRow w.heap.size 58 1 (.slice (some ⟨wr.heap.size, 0, none⟩) 1 1) 1 (lims [x]) := by
        have := World.ownsRow_lit (base := w.heap.size) (e := 58) (size := 1) wr #[Value.int .u32 (x : Int)] 1 hs (by unfold maxLen; omega) (by simp)
        simpa [lims] using this
      have HL1 := Lib.hid hown1
      clear hown1
      go_wp2_with (at_builtin; refine wpList_append_lim rfl (.tmp 47) (.tmp 48) rfl w.heap.size (some ⟨wr.heap.size, 0, none⟩) 1 1 [x] rfl HL1.out (Nat.le_refl _) ra rn rc rl rfl H.out.2.2.2.2.2.2.2.2.2 (H.out.2.2.2.2.2.2.2.2.1.below (below_alloc1 _ _)) ?d1 ?d2 ?_)
      case d1 => omega
      case d2 => simp; omega
      intro v1 w2 hown2 hgrow2
      have hlo2 : Lo ([x] ++ rl) := fun i => by
        rcases i with _ | i
        · exact hxj
        · exact H.out.2.2.1.1 i
      have hlim2 := lim_owns hown2 (by simp [H.out.2.2.2.2.2.2.2.2.2]; omega) (fun i => Nat.lt_trans (hlo2 i) (by decide))
      have hb2 : Below wr.heap.size wr w2 := ((Below.refl wr.heap.size wr).alloc (Nat.le_refl _) _).grown hgrow2 (by simp) (by simp [Value.ownBlock])
      have hX : val ([x] ++ rl) = x + 1000000000 * R := by rw [← H.out.2.1]; rfl
      have H2 := Lib.hid (And.intro hlim2 (And.intro hlo2 (And.intro hb2 hX)))
      clear hown2 hgrow2 hlo2 hlim2 hb2 hX HL1
      go_wp2_with fail
      refine (cut_new v1 ([x] ++ rl) w2 H2.out.1 H2.out.2.1 (by simp [H.out.2.2.2.2.2.2.2.2.2]; omega)).mono ?_
      rintro e w3 ⟨v3, rfl, hnt3, hb3, hf3⟩
      have hg2 : w.heap.size < w2.heap.size := Nat.lt_of_lt_of_le H.out.2.2.2.2.1.block.2 H2.out.2.2.1.size
      rw [H2.out.2.2.2] at hnt3
      obtain ⟨X, hXe⟩ : ∃ X, x + 1000000000 * R = X := ⟨_, rfl⟩
      rw [hXe] at hnt3
      obtain ⟨sa, sn, sc, rfl⟩ := hnt3.shape
      have hXB : X < B * 1000000000 := by have := H.out.2.2.2.1; omega
      have hXk : X < pw (m + 2 + 1) := by have hps := pw_succ (m + 2); omega
      have H3 := Lib.hid (And.intro hnt3 (And.intro (below_next H2.out.2.2.1 hb3) (And.intro hXe (And.intro hXB hXk))))
      have HF3 := Lib.hid (show ∀ k, (Value.slice sa sn sc).ownBlock = some k → w.heap.size < k from fun k hk => Nat.lt_of_lt_of_le hg2 (hf3 k hk))
      have HG3 := Lib.hid (Nat.lt_of_lt_of_le hg2 hb3.size)
      clear hnt3 hb3 hXe hXB hXk H2 hf3 hg2
      go_wp2_with fail
      refine (guess_nt (u := .slice sa sn sc) (R := X) (b := bl) H3.out.1 (HC.out.2.2.2.1.below (below_next' H.out.2.2.2.2.2.2.2.1 H3.out.2.1)) HC.out.2.2.2.2.2.1 HC.out.2.2.2.2.2.2.2.1 (by omega) H3.out.2.2.2.2 (by omega) rfl).mono ?_
      rintro e w4 ⟨d0, hd0, rfl, nd4, rfl⟩
      go_wp2
      go_loopw [11] (fun s11 wx => ∃ d : Nat, s11 = .int .u64 d ∧ d ≤ 999999999 ∧ Below w3.heap.size w3 wx) (fun s11 _ => (intOf s11).toNat)
      case atStart => exact ⟨d0, rfl, hd0, below_drewN (Below.refl _ _) nd4⟩
      case round =>
        obtain ⟨d, rfl, hd, hbx⟩ := hrel
        obtain ⟨wx, rfl⟩ : ∃ wx : World, wx = wr := ⟨_, rfl⟩
        have hpk : 999999999 < pw (m + 2) := by have := pw_le (show 1 ≤ m + 2 by omega); have e : pw 1 = 1000000000 := rfl; omega
        have HX := Lib.hid (And.intro hbx hpk)
        clear hbx hpk
        by_cases hgt : 0 < d ∧ X < B * d
        · obtain ⟨hpos, hgt⟩ := hgt
          have HG := Lib.hid hgt
          clear hgt
          go_wp2_with fail
          refine (limbs_any d (by omega) wx).mono ?_
          rintro e w5 ⟨v5, rfl, hn5, hb5⟩
          obtain ⟨da, dn, dc, rfl⟩ := hn5.shape
          have H5 := Lib.hid (And.intro hn5 (below_next HX.out.1 hb5))
          clear hn5 hb5
          go_wp2_with fail
          refine (natMul_any (HC.out.2.2.1.below (below_next' H.out.2.2.2.2.2.2.2.1 (below_next H3.out.2.1 H5.out.2))) H5.out.1 hBlt (Nat.lt_of_le_of_lt hd HX.out.2) (by omega)).mono ?_
          rintro e w6 ⟨v6, rfl, hn6, hb6⟩
          obtain ⟨ma, mn, mc, rfl⟩ := hn6.shape
          have H6 := Lib.hid (And.intro hn6 (below_next H5.out.2 hb6))
          clear hn6 hb6 H5
          go_wp2_with fail
          have hc6 := natCmp_nt H6.out.1 (H3.out.1.below H6.out.2)
          unfold CmpP at hc6
          rw [cmpI_gt (by have := HG.out; omega)] at hc6
          refine hc6.mono ?_
          rintro e w7 ⟨rfl, n7, rfl⟩
          have H7 := Lib.hid (below_drewN H6.out.2 n7)
          clear hc6 H6
          go_wp2
          go_roundw
          case rel => exact ⟨d - 1, by go_num, by omega, H7.out⟩
          case measure => simp [intOf]; omega
        · have hex : B * d ≤ X := by
            rcases Nat.eq_zero_or_pos d with h' | h'
            · rw [h', Nat.mul_zero]; exact Nat.zero_le _
            · rcases Nat.lt_or_ge X (B * d) with h'' | h''
              · exact absurd ⟨h', h''⟩ hgt
              · exact h''
          have HG := Lib.hid hex
          clear hex hgt
          by_cases hpos : 0 < d
          go_wp2_with fail
          refine (limbs_any d (by omega) wx).mono ?_
          rintro e w5 ⟨v5, rfl, hn5, hb5⟩
          obtain ⟨da, dn, dc, rfl⟩ := hn5.shape
          have H5 := Lib.hid (And.intro hn5 (below_next HX.out.1 hb5))
          clear hn5 hb5
          go_wp2_with fail
          refine (natMul_any (HC.out.2.2.1.below (below_next' H.out.2.2.2.2.2.2.2.1 (below_next H3.out.2.1 H5.out.2))) H5.out.1 hBlt (Nat.lt_of_le_of_lt hd HX.out.2) (by omega)).mono ?_
          rintro e w6 ⟨v6, rfl, hn6, hb6⟩
          obtain ⟨ma, mn, mc, rfl⟩ := hn6.shape
          have H6 := Lib.hid (And.intro hn6 (below_next H5.out.2 hb6))
          clear hn6 hb6 H5
          go_wp2_with fail
          have hc6 := natCmp_nt H6.out.1 (H3.out.1.below H6.out.2)
          unfold CmpP at hc6
          obtain ⟨cv, hcv⟩ : ∃ cv, cmpI ((B * d : Nat) : Int) (X : Int) = cv := ⟨_, rfl⟩
          have hcle : cv ≤ 0 := by
            rw [← hcv]
            have := HG.out
            unfold cmpI
            split <;> (try split) <;> omega
          rw [hcv] at hc6
          refine hc6.mono ?_
          rintro e wy ⟨rfl, n7, rfl⟩
          have HD := Lib.hid (below_drewN H6.out.2 n7)
          obtain ⟨wy, hwy⟩ : ∃ wy, w6.drewN n7 = wy := ⟨_, rfl⟩
          rw [hwy] at HD ⊢
          clear hc6 H6 hcv hwy
          go_wp2_with fail
          rotate_left 1
          have HD := Lib.hid HX.out.1
          obtain ⟨wy, hwy⟩ : ∃ wy, wx = wy := ⟨_, rfl⟩
          rw [hwy] at HD ⊢
          clear hwy
          go_wp2_with fail
          all_goals
            refine (limbs_any d (by omega) wy).mono ?_
            rintro e w5 ⟨v5, rfl, hn5, hb5⟩
            obtain ⟨da5, dn5, dc5, rfl⟩ := hn5.shape
            have H5 := Lib.hid (And.intro hn5 (below_next HD.out hb5))
            clear hn5 hb5
            go_wp2_with fail
            refine (natMul_any (HC.out.2.2.1.below (below_next' H.out.2.2.2.2.2.2.2.1 (below_next H3.out.2.1 H5.out.2))) H5.out.1 hBlt (Nat.lt_of_le_of_lt hd HX.out.2) (by omega)).mono ?_
            rintro e w8 ⟨v6, rfl, hn6, hb6⟩
            obtain ⟨ma6, mn6, mc6, rfl⟩ := hn6.shape
            have H6 := Lib.hid (And.intro hn6 (below_next H5.out.2 hb6))
            clear hn6 hb6 H5
            go_wp2_with fail
            refine (natSub_new (H3.out.1.below H6.out.2) H6.out.1 H3.out.2.2.2.2 (by omega) HG.out).mono ?_
            rintro e w9 ⟨v7, rfl, hn7, hb7, hf7⟩
            obtain ⟨sa7, sn7, sc7, rfl⟩ := hn7.shape
            have H7 := Lib.hid (And.intro hn7 (And.intro (below_next H6.out.2 hb7) (show X = B * d + (X - B * d) by have := HG.out; omega)))
            have HF7 := Lib.hid (show ∀ k, (Value.slice sa7 sn7 sc7).ownBlock = some k → w.heap.size < k from fun k hk => Nat.lt_of_lt_of_le (Nat.lt_of_lt_of_le HG3.out H6.out.2.size) (hf7 k hk))
            clear hn7 hb7 H6 HD hpos hf7
            go_wp2
            go_loopw [9, 11] (fun s9 s11 wz => ∃ (d X' : Nat) (sa : Option Addr) (sn sc : Nat), s9 = .slice sa sn sc ∧ Nt wz (.slice sa sn sc) X' ∧ s11 = .int .u64 d ∧ X = B * d + X' ∧ d ≤ 999999999 ∧ (∀ k, (Value.slice sa sn sc).ownBlock = some k → w.heap.size < k) ∧ Below w3.heap.size w3 wz) (fun _ s11 _ => 1000000000 - (intOf s11).toNat)
            case atStart => exact ⟨d, _, _, _, _, rfl, H7.out.1, rfl, H7.out.2.2, hd, HF7.out, H7.out.2.1⟩
            case round =>
              obtain ⟨d2, X2, sa2, sn2, sc2, rfl, hn8, rfl, hXd, hd2, hf8, hb8⟩ := hrel
              obtain ⟨wz, rfl⟩ : ∃ wz : World, wz = wr := ⟨_, rfl⟩
              have H8 := Lib.hid (And.intro hn8 (And.intro hXd hb8))
              have HF8 := Lib.hid hf8
              clear hn8 hXd hb8 H7 hf8
              have hcb := natCmp_nt H8.out.1 (HC.out.2.2.1.below (below_next' H.out.2.2.2.2.2.2.2.1 (below_next H3.out.2.1 H8.out.2.2)))
              unfold CmpP at hcb
              obtain ⟨cv2, hcv2⟩ : ∃ cv, cmpI (X2 : Int) (B : Int) = cv := ⟨_, rfl⟩
              rw [hcv2] at hcb
              by_cases hge2 : B ≤ X2
              · have hc0 : 0 ≤ cv2 := by rw [← hcv2]; exact ge_case hge2
                have hd3 : d2 + 1 ≤ 999999999 := by
                  have h1 := H8.out.2.1
                  have h2 := H3.out.2.2.2.1
                  have h3 : B * (d2 + 1) < B * 1000000000 := by rw [Nat.mul_add, Nat.mul_one]; omega
                  have h4 := Nat.lt_of_mul_lt_mul_left h3
                  omega
                have HB2 := Lib.hid (And.intro hcb hge2)
                clear hcb hge2 hcv2
                go_wp2_with fail
                refine HB2.out.1.mono ?_
                rintro e w10 ⟨rfl, n10, rfl⟩
                go_wp2_with fail
                refine (natSub_new (H8.out.1.below (below_drewN (Below.refl _ _) n10)) (HC.out.2.2.1.below (below_next' H.out.2.2.2.2.2.2.2.1 (below_next H3.out.2.1 (below_drewN H8.out.2.2 n10)))) (k := m + 2 + 1) (by have h1 := H8.out.2.1; have h2 := H3.out.2.2.2.2; omega) (by omega) HB2.out.2).mono ?_
                rintro e w11 ⟨v11, rfl, hn11, hb11, hf11⟩
                obtain ⟨sa9, sn9, sc9, rfl⟩ := hn11.shape
                have H9 := Lib.hid (And.intro hn11 (And.intro (below_next (below_drewN H8.out.2.2 n10) hb11) (show X = B * (d2 + 1) + (X2 - B) by rw [Nat.mul_add, Nat.mul_one]; have := H8.out.2.1; have := HB2.out.2; omega)))
                have HF9 := Lib.hid (show ∀ k, (Value.slice sa9 sn9 sc9).ownBlock = some k → w.heap.size < k from fun k hk => Nat.lt_of_lt_of_le (Nat.lt_of_lt_of_le HG3.out (below_drewN H8.out.2.2 n10).size) (hf11 k hk))
                clear hn11 hb11 hf11
                go_wp2
                go_roundw
                case rel => exact ⟨d2 + 1, X2 - B, _, _, _, rfl, H9.out.1, by go_num, H9.out.2.2, hd3, HF9.out, H9.out.2.1⟩
                case measure => simp [intOf]; omega
              · have hc0 : cv2 < 0 := by rw [← hcv2, cmpI_lt (by omega)]; omega
                have HB2 := Lib.hid (And.intro hcb (show X2 < B by omega))
                clear hcb hge2 hcv2
                go_wp2_with fail
                refine HB2.out.1.mono ?_
                rintro e w10 ⟨rfl, n10, rfl⟩
                have hbA := below_next H3.out.2.1 (below_drewN H8.out.2.2 n10)
                have hownA := H.out.2.2.2.2.1.below hbA
                have hfrA := hownA.frozen j
                have hcA := hownA.cell j hjn
                have HA := Lib.hid (And.intro hbA hownA)
                clear hbA hownA
                go_wp2
                go_roundw
                case rel =>
                  obtain ⟨hxe, hrv, crl, hRB, hown, hlo, hval, hbel, hrl, hrln⟩ := H.out
                  refine ⟨(j : Int) - 1, X2, L.set j d2, sa2, sn2, sc2, rfl, by omega, by omega, rfl, ?_, HB2.out.2, HA.out.2.store' j d2 _ (by first | rfl | omega) (by omega), lo_set_drop (by rw [hown.len]; exact hjn) hlo (by omega), ?_, (below_next' hbel HA.out.1).setCell (Nat.le_refl _) _⟩
                  · exact (H8.out.1.below (below_drewN (Below.refl _ _) n10)).off HF8.out
                  · rw [show ((j : Int) - 1 + 1).toNat = j by omega]
                    exact long_step (by rw [HC.out.2.2.2.2.1]; exact hjn) (by rw [hown.len]; exact hjn) hval (by rw [hxe]; exact H3.out.2.2.1.symm) H8.out.2.1
                case measure => simp [intOf]

end Go.Proofs.Ytdpiclmjdcjajaa

/-
  The reference's walks of natDiv, natGcd and build.
-/
namespace Go.Proofs.Ytdpiclmjdcjajaa
open Go.RowKit Num

theorem natDiv_any {w : World} {u v : Value} {x y k : Nat} (hu : Nt w u x) (hv : Nt w v y) (hy : 0 < y) (hx : x < pw k) (hk : k ≤ 90000) : Calls Try.prog 100 #[u, v] w (NatDivP x y w) := by
  rcases Nat.lt_or_ge x y with h | h
  · exact natDiv_less u v x y k w hu hv hx (by omega) h
  · have hu' := hu
    obtain ⟨al, ha, ca, rfl⟩ := hu
    obtain ⟨bl, hb, cb, rfl⟩ := hv
    have han := cano_len ca hx
    have ha' := ha
    have hb' := hb
    obtain ⟨ua, uc, rfl, _⟩ := ha
    obtain ⟨va, vc, rfl, _⟩ := hb
    have hb0 : bl.length ≠ 0 := fun e => by have := cb.zero.2 e; omega
    by_cases h1 : bl.length = 1
    · rw [h1] at hb' ⊢
      exact natDiv_small _ va vc bl (val al) k w hu' hb' h1 cb hx (by omega) h
    · obtain ⟨m, hm⟩ : ∃ m, bl.length = m + 2 := ⟨bl.length - 2, by omega⟩
      rw [hm] at hb' ⊢
      exact natDiv_long ua va al.length m uc vc k al bl w ha' hb' rfl hm ca cb han hk h

def GcdN (x y k : Nat) (w : World) (b : Nat) (s t : Value) (wr : World) : Prop :=
  ∃ (a : Nat) (sa : Option Addr) (sn sc : Nat) (ta : Option Addr) (tn tc : Nat), s = .slice sa sn sc ∧ t = .slice ta tn tc ∧ Nt wr (.slice sa sn sc) a ∧ Nt wr (.slice ta tn tc) b ∧ a < pw k ∧ b < pw k ∧ Nat.gcd a b = Nat.gcd x y ∧ Below w.heap.size w wr

set_option maxHeartbeats 2000000 in
theorem natGcd_any {w : World} {u v : Value} {x y k : Nat} (hu : Nt w u x) (hv : Nt w v y) (hx : x < pw k) (hy : y < pw k) (hk : k ≤ 90000) : Calls Try.prog 99 #[u, v] w (NtP (Nat.gcd x y) w) := by
  obtain ⟨ua, un, uc, rfl⟩ := hu.shape
  obtain ⟨va, vn, vc, rfl⟩ := hv.shape
  have HU := Lib.hid (And.intro hu (And.intro hv (And.intro hx hy)))
  clear hu hv hx hy
  go_enter Try.func99, Try.ntmps99
  go_wp2
  go_loopg [0, 1] y (fun b s t wr => GcdN x y k w b s t wr)
  case atStart => exact ⟨x, _, _, _, _, _, _, rfl, rfl, HU.out.1, HU.out.2.1, HU.out.2.2.1, HU.out.2.2.2, rfl, Below.refl _ _⟩
  case round =>
    obtain ⟨a, sa, sn, sc, ta, tn, tc, rfl, rfl, hs, ht, ha, hb, hg, hbel⟩ := hrel
    obtain ⟨b, rfl⟩ : ∃ b, b = gk := ⟨_, rfl⟩
    have hl := nt_len ht
    have H := Lib.hid (And.intro hs (And.intro ht (And.intro ha (And.intro hb (And.intro hg hbel)))))
    clear hs ht ha hb hg hbel
    by_cases h0 : tn = 0
    · subst h0
      have hb0 : b = 0 := hl.1 rfl
      have HB := Lib.hid hb0
      clear hb0 hl
      go_wp2
      go_ret
      refine ⟨_, rfl, ?_, H.out.2.2.2.2.2⟩
      have := H.out.2.2.2.2.1
      rw [HB.out, Nat.gcd_zero_right] at this
      rw [← this]
      exact H.out.1
    · have hb0 : 0 < b := by
        rcases Nat.eq_zero_or_pos b with h | h
        · exact absurd (hl.2 h) h0
        · exact h
      have hpos : 0 < tn := by omega
      clear hl h0
      go_wp2_with fail
      refine (natDiv_any H.out.1 H.out.2.1 hb0 H.out.2.2.1 hk).mono ?_
      rintro e w2 ⟨qv, rv, rfl, hq, hr, hb2⟩
      obtain ⟨ra, rn, rc, rfl⟩ := hr.shape
      have HE := Lib.hid (And.intro (H.out.2.1.below hb2) (And.intro hr (below_next' H.out.2.2.2.2.2 hb2)))
      have hlt := Nat.mod_lt a hb0
      clear hq hr hb2
      go_wp2
      go_roundg (a % b)
      case rel => exact ⟨b, _, _, _, _, _, _, rfl, rfl, HE.out.1, HE.out.2.1, H.out.2.2.2.1, Nat.lt_trans hlt H.out.2.2.2.1, by rw [← H.out.2.2.2.2.1, Nat.gcd_comm a b, Nat.gcd_rec b a, Nat.gcd_comm], HE.out.2.2⟩
      case measure => exact hlt

end Go.Proofs.Ytdpiclmjdcjajaa
