/-
  The walks of typing.Equal and slices.EqualFunc at it. No conditions.
-/
import Derived.Test.YtkobfnpkebgmjaaTpMore
namespace Go.Proofs.Ytkobfnpkebgmjaa
open Go.RowKit Go.Deep

def EqualP (n : Nat) : Prop := ∀ (cs cs' : List Value) (s t : Tp) (w : World), TpC w.cell? n cs s → TpC w.cell? n cs' t →
    Calls Try.prog 26 #[.agg cs.toArray, .agg cs'.toArray] w (fun e w' => e = .returned (.bool (tpEq s t)) ∧ Below w.heap.size w w')

set_option maxRecDepth 100000 in
set_option maxHeartbeats 8000000 in
theorem equal_step (n : Nat) (ih : ∀ (v u : Value) (x y : List Tp) (w : World), TpsC w.cell? n v x → TpsC w.cell? n u y →
    Calls Try.prog 29 #[v, u, .func (.func 26) #[] #[]] w (fun e w' => e = .returned (.bool (tpsEq x y)) ∧ Below w.heap.size w w')) : EqualP (n + 1) := by
    intro cs cs' s t w hs ht
    obtain ⟨k, u, us⟩ := s
    obtain ⟨k', u', us'⟩ := t
    obtain ⟨v, rfl, hk, hu, hrow⟩ := hs
    obtain ⟨v', rfl, hk', hu', hrow'⟩ := ht
    have hrow1 := hrow
    have hrow2 := hrow'
    obtain ⟨a, cap, rfl, hcap, hcap2, _⟩ := hrow
    obtain ⟨a', cap', rfl, hcap', hcap2', _⟩ := hrow'
    have HA := Lib.hid (And.intro (show TpsC w.cell? n _ us from hrow1) (And.intro (show TpsC w.cell? n _ us' from hrow2) ih))
    clear hrow1 hrow2 ih
    by_cases h1 : (k == k') = true
    · by_cases h2 : (u == u') = true
      · have hval : tpEq (.mk k u us) (.mk k' u' us') = tpsEq us us' := by
          have e1 : k = k' := by simpa using h1
          have e2 : u = u' := by simpa using h2
          subst e1
          subst e2
          cases hb : tpsEq us us'
          · exact tpEq_false fun h => by
              injection h with _ _ h
              rw [tpsEq_true.2 h] at hb
              cases hb
          · rw [tpsEq_true.1 hb]
            exact tpEq_true.2 rfl
        rw [hval]
        obtain ⟨R, hR⟩ : ∃ R, tpsEq us us' = R := ⟨_, rfl⟩
        rw [hR]
        have HR := Lib.hid hR
        clear hR hval
        have hb : Below w.heap.size w ((w.alloc (.cells #[.int .i64 k, .int .i64 u, .slice a us.length cap] 25)).alloc (.cells #[.int .i64 k', .int .i64 u', .slice a' us'.length cap'] 25)) := (below_alloc1 w _).alloc (by simp) _
        have HB := Lib.hid hb
        clear hb
        go_enter Try.func26, Try.ntmps26
        go_wp2_with fail
        refine (HA.out.2.2 _ _ us us' _ (HA.out.1.kept fun _ _ h => cell_below HB.out h) (HA.out.2.1.kept fun _ _ h => cell_below HB.out h)).mono ?_
        rintro e w6 ⟨rfl, hb6⟩
        have hF := Lib.hid (below_next' HB.out hb6)
        clear hb6
        rw [HR.out]
        go_wp2_with fail
        go_ret
        exact ⟨rfl, hF.out⟩
      · have hval : tpEq (.mk k u us) (.mk k' u' us') = false := tpEq_false fun h => h2 (by injection h with _ h _; simpa using h)
        rw [hval]
        have h2' : (u == u') = false := by simpa using h2
        clear hval h2
        have hb : Below w.heap.size w ((w.alloc (.cells #[.int .i64 k, .int .i64 u, .slice a us.length cap] 25)).alloc (.cells #[.int .i64 k', .int .i64 u', .slice a' us'.length cap'] 25)) := (below_alloc1 w _).alloc (by simp) _
        have HB := Lib.hid hb
        clear hb
        go_enter Try.func26, Try.ntmps26
        go_wp2_with fail
        go_ret
        exact ⟨rfl, HB.out⟩
    · have hval : tpEq (.mk k u us) (.mk k' u' us') = false := tpEq_false fun h => h1 (by injection h with h _ _; simpa using h)
      rw [hval]
      have h1' : (k == k') = false := by simpa using h1
      clear hval h1
      have hb : Below w.heap.size w ((w.alloc (.cells #[.int .i64 k, .int .i64 u, .slice a us.length cap] 25)).alloc (.cells #[.int .i64 k', .int .i64 u', .slice a' us'.length cap'] 25)) := (below_alloc1 w _).alloc (by simp) _
      have HB := Lib.hid hb
      clear hb
      go_enter Try.func26, Try.ntmps26
      go_wp2_with fail
      go_ret
      exact ⟨rfl, HB.out⟩
set_option maxRecDepth 100000 in
set_option maxHeartbeats 8000000 in
theorem equalFunc_step (n : Nat) (ih : EqualP n) (v u : Value) (x y : List Tp) (w : World) (hv : TpsC w.cell? n v x) (hu : TpsC w.cell? n u y) :
    Calls Try.prog 29 #[v, u, .func (.func 26) #[] #[]] w (fun e w' => e = .returned (.bool (tpsEq x y)) ∧ Below w.heap.size w w') := by
  have hv' := hv
  have hu' := hu
  obtain ⟨a, cap, rfl, hcap, hcap2, -⟩ := hv
  obtain ⟨a2, cap2, rfl, hcap3, hcap4, -⟩ := hu
  have HA := Lib.hid (And.intro hv' (And.intro hu' ih))
  clear hv' hu' ih
  by_cases hlen : x.length = y.length
  · obtain ⟨n', hn⟩ : ∃ n', x.length = n' := ⟨_, rfl⟩
    have hn2 : y.length = n' := by omega
    obtain ⟨R, hR⟩ : ∃ R, tpsEq x y = R := ⟨_, rfl⟩
    rw [hR]
    have HR := Lib.hid (And.intro hR (And.intro hn hn2))
    rw [hn] at hcap ⊢
    rw [hn2] at hcap3 ⊢
    clear hR hn hn2 hlen
    go_enter Try.func29, Try.ntmps29
    go_wp2_with fail
    go_loopw [17] (fun t wr => ∃ i : Nat, i ≤ n' ∧ t = .int .i64 i ∧ Hid (∀ j (h : j < x.length) (h' : j < y.length), j < i → x[j] = y[j]) ∧ Below w.heap.size w wr) (fun t _ => n' - (intOf t).toNat)
    case atStart => exact ⟨0, Nat.zero_le _, rfl, Lib.hid fun j _ _ h => by omega, Below.refl _ _⟩
    case round =>
      obtain ⟨i, hi, rfl, hall, hb⟩ := hrel
      by_cases hlt : i < n'
      · have hii : (i : Int) < (n' : Int) := by omega
        have hxi : i < x.length := by have := HR.out.2.1; omega
        have hyi : i < y.length := by have := HR.out.2.2; omega
        obtain ⟨b, o, t0, t1, t2, rfl, c0, c1, c2, ht⟩ := TpsC.cells (HA.out.1.kept fun _ _ h => cell_below hb h) hxi
        obtain ⟨b2, o2, s0, s1, s2, rfl, d0, d1, d2, hs⟩ := TpsC.cells (HA.out.2.1.kept fun _ _ h => cell_below hb h) hyi
        obtain ⟨k0, u0, a0, m0, p0, e0⟩ := tp_shape ht
        simp only [List.cons.injEq, and_true] at e0
        obtain ⟨rfl, rfl, rfl⟩ := e0
        obtain ⟨k1, u1, a1, m1, p1, e1⟩ := tp_shape hs
        simp only [List.cons.injEq, and_true] at e1
        obtain ⟨rfl, rfl, rfl⟩ := e1
        obtain ⟨p, hp⟩ : ∃ p, x[i] = p := ⟨_, rfl⟩
        obtain ⟨q, hq⟩ : ∃ q, y[i] = q := ⟨_, rfl⟩
        rw [hp] at ht
        rw [hq] at hs
        obtain ⟨r, hr⟩ : ∃ r, tpEq p q = r := ⟨_, rfl⟩
        have hbA := below_alloc1 wr (.cells #[.int .i64 k0, .int .i64 u0, .slice a0 m0 p0] 25)
        have hbB := below_alloc1 (wr.alloc (.cells #[.int .i64 k0, .int .i64 u0, .slice a0 m0 p0] 25)) (.cells #[.int .i64 k1, .int .i64 u1, .slice a1 m1 p1] 25)
        have d0' := cell_below hbA d0
        have d1' := cell_below hbA d1
        have d2' := cell_below hbA d2
        have H1 := Lib.hid (And.intro (ht.kept fun _ _ h => cell_below hbB (cell_below hbA h)) (And.intro (hs.kept fun _ _ h => cell_below hbB (cell_below hbA h)) (And.intro hp (And.intro hq (And.intro hr (below_next' (below_next' hb hbA) hbB))))))
        clear ht hs hp hq hr hb hbA hbB
        go_wp2_with fail
        refine (HA.out.2.2 [.int .i64 k0, .int .i64 u0, .slice a0 m0 p0] [.int .i64 k1, .int .i64 u1, .slice a1 m1 p1] p q _ H1.out.1 H1.out.2.1).mono ?_
        rintro e w6 ⟨rfl, hb6⟩
        rw [H1.out.2.2.2.2.1]
        have hb7 := below_next' H1.out.2.2.2.2.2 hb6
        cases r
        · have hF := Lib.hid (And.intro hb7 (show R = false from by
            rw [← HR.out.1]
            refine tpsEq_false fun h => ?_
            have h1 := H1.out.2.2.2.2.1
            have : p = q := by
              rw [← H1.out.2.2.1, ← H1.out.2.2.2.1]
              subst h
              rfl
            rw [tpEq_true.2 this] at h1
            cases h1))
          clear hb6 hb7 hall c0 c1 c2 d0 d1 d2 d0' d1' d2'
          go_wp2_with fail
          go_ret
          rw [hF.out.2]
          exact ⟨rfl, hF.out.1⟩
        · have hF := Lib.hid (And.intro hb7 (show ∀ j (h : j < x.length) (h' : j < y.length), j < i + 1 → x[j] = y[j] from fun j h h' hj => by
            by_cases e : j = i
            · subst e
              rw [H1.out.2.2.1, H1.out.2.2.2.1]
              exact tpEq_true.1 H1.out.2.2.2.2.1
            · exact hall.out j h h' (by omega)))
          clear hb6 hb7 hall c0 c1 c2 d0 d1 d2 d0' d1' d2'
          go_wp2_with fail
          go_roundw
          case rel => exact ⟨i + 1, by omega, by go_num, Lib.hid hF.out.2, hF.out.1⟩
          case measure => simp [intOf] <;> omega
      · obtain rfl : n' = i := by omega
        have HN : Hid (R = true ∧ Below w.heap.size w wr) := Lib.hid ⟨by
          rw [← HR.out.1]
          exact tpsEq_true.2 (List.ext_getElem (by have := HR.out.2; omega) fun j h h' => hall.out j h h' (by have := HR.out.2.1; omega)), hb⟩
        clear hall hlt hb
        go_wp2_with fail
        go_ret
        rw [HN.out.1]
        exact ⟨rfl, HN.out.2⟩
  · have h1 : ((x.length : Int) == (y.length : Int)) = false := by rw [beq_eq_false_iff_ne]; omega
    have h2 : tpsEq x y = false := tpsEq_false fun h => hlen (by rw [h])
    have h3 : ¬ (x.length : Int) = (y.length : Int) := by omega
    rw [h2]
    clear h2
    go_enter Try.func29, Try.ntmps29
    go_wp2_with fail
    go_ret
    exact ⟨rfl, Below.refl _ _⟩
theorem equal_all : ∀ n, EqualP n
  | 0 => fun _ _ _ _ _ h => h.elim
  | n + 1 => equal_step n (equalFunc_step n (equal_all n))
end Go.Proofs.Ytkobfnpkebgmjaa
