/-
  The walk of amortcostkeep.Data: where it answers true, the lists are short and the types small. No condition.
-/
import Derived.Test.YtkobfnpkebgmjaaTpSize
namespace Go.Proofs.Ytkobfnpkebgmjaa
open Go.RowKit Go.Deep

def ConOk (c : Con) : Prop := c.args.length ≤ 8 ∧ sizeL c.args ≤ 20
def DecOk (d : Dec) : Prop := d.cons.length ≤ 10 ∧ ∀ j (h : j < d.cons.length), ConOk d.cons[j]
def DecsOk (l : List Dec) : Prop := l.length ≤ 14 ∧ ∀ j (h : j < l.length), DecOk l[j]

theorem tp_shape {c : Addr → Option Value} {n : Nat} {cs : List Value} {t : Tp} (h : TpC c n cs t) : ∃ k u a m p, cs = [Value.int .i64 k, .int .i64 u, .slice a m p] := by
  obtain ⟨k, u, us⟩ := t
  match n, h with
  | n + 1, ⟨v, e, _, _, a, cap, e2, _⟩ => exact ⟨k, u, a, us.length, cap, by rw [e, e2]⟩
def DataP (l : List Dec) (w : World) (e : Ending) (w' : World) : Prop := ∃ r, e = .returned (.bool r) ∧ Below w.heap.size w w' ∧ (r = true → DecsOk l)

set_option maxRecDepth 100000 in
set_option maxHeartbeats 8000000 in
theorem data_any (n : Nat) (v : Value) (l : List Dec) (w : World) (hv : DecsC w.cell? n v l) :
    Calls Try.prog 5 #[v] w (DataP l w) := by
  obtain ⟨a, cap, rfl, hcap, hcap2, hrow⟩ := hv
  by_cases hlen : l.length ≤ 14
  · have hlen' : ¬ (14 : Int) < (l.length : Int) := by omega
    have HA := Lib.hid (And.intro hrow hlen)
    clear hrow hlen
    go_enter Try.func5, Try.ntmps5
    go_wp2_with fail
    go_loopw [15] (fun x wr => ∃ i : Nat, i ≤ l.length ∧ x = .int .i64 i ∧ Hid (∀ j (h : j < l.length), j < i → DecOk l[j]) ∧ Below w.heap.size w wr) (fun x _ => l.length - (intOf x).toNat)
    case atStart => exact ⟨0, Nat.zero_le _, rfl, Lib.hid fun j _ h => by omega, Below.refl _ _⟩
    case round =>
      obtain ⟨wA, hwA⟩ : ∃ y, y = wr := ⟨_, rfl⟩
      subst hwA
      obtain ⟨i, hi, rfl, hall, hb⟩ := hrel
      by_cases hlt : i < l.length
      · have hii : (i : Int) < (l.length : Int) := by omega
        obtain ⟨b, o, cs', rfl, hcl, hcs, v2, rfl, hns, hvars, hcons⟩ := HA.out.1 i hlt
        obtain ⟨d, hd⟩ : ∃ d, l[i] = d := ⟨_, rfl⟩
        rw [hd] at hcs hns hvars hcons
        obtain ⟨name, vars, cons⟩ := d
        simp only at hcs hns hvars hcons
        obtain ⟨a2, cap2, rfl, hcap3, hcap4, hrow2⟩ := hcons
        have i0 : wA.cell? ⟨b, o + i * 3, none⟩ = some (.string name) := cell_below hb (hcs 0 (by omega))
        have i1 : wA.cell? ⟨b, o + i * 3 + 1, none⟩ = some (.int .i64 vars) := cell_below hb (hcs 1 (by omega))
        have i2 : wA.cell? ⟨b, o + i * 3 + 2, none⟩ = some (.slice a2 cons.length cap2) := cell_below hb (hcs 2 (by omega))
        have hb1 := below_next' hb (below_alloc1 wA (.cells #[.string name, .int .i64 vars, .slice a2 cons.length cap2] 34))
        have H1 := Lib.hid (And.intro hall.out (And.intro hb1 (And.intro hrow2 hd)))
        clear hall hb hb1 hrow2 hcs hd hvars
        by_cases hname : 40 < name.size
        · have hname' : (40 : Int) < (name.size : Int) := by omega
          go_wp2_with fail
          go_ret
          exact ⟨false, rfl, H1.out.2.1, fun h => by cases h⟩
        by_cases hmany : 10 < cons.length
        · have hname' : ¬ (40 : Int) < (name.size : Int) := by omega
          have hmany' : (10 : Int) < (cons.length : Int) := by omega
          go_wp2_with fail
          go_ret
          exact ⟨false, rfl, H1.out.2.1, fun h => by cases h⟩
        have hname' : ¬ (40 : Int) < (name.size : Int) := by omega
        have hmany' : ¬ (10 : Int) < (cons.length : Int) := by omega
        go_wp2_with fail
        clear i0 i1 i2
        generalize wA.alloc (.cells #[.string name, .int .i64 vars, .slice a2 cons.length cap2] 34) = wb at H1 ⊢
        go_loopw [32] (fun x w2 => ∃ j : Nat, j ≤ cons.length ∧ x = .int .i64 j ∧ Hid (∀ q (h : q < cons.length), q < j → ConOk cons[q]) ∧ Below w.heap.size w w2) (fun x _ => cons.length - (intOf x).toNat)
        case atStart => exact ⟨0, Nat.zero_le _, rfl, Lib.hid fun j _ h => by omega, H1.out.2.1⟩
        case round =>
          obtain ⟨wC, hwC⟩ : ∃ y, y = wr := ⟨_, rfl⟩
          subst hwC
          obtain ⟨j, hj, rfl, hin, hb2⟩ := hrel
          by_cases hltj : j < cons.length
          · have hjj : (j : Int) < (cons.length : Int) := by omega
            obtain ⟨b2, o2, cs2, rfl, hcl2, hcs2, v3, rfl, hcn, hargs⟩ := H1.out.2.2.1 j hltj
            obtain ⟨c, hc⟩ : ∃ c, cons[j] = c := ⟨_, rfl⟩
            rw [hc] at hcs2 hcn hargs
            obtain ⟨cname, args⟩ := c
            simp only at hcs2 hcn hargs
            obtain ⟨a3, cap5, rfl, hcap5, hcap6, hrow3⟩ := hargs
            have k0 : wC.cell? ⟨b2, o2 + j * 2, none⟩ = some (.string cname) := cell_below hb2 (hcs2 0 (by omega))
            have k1 : wC.cell? ⟨b2, o2 + j * 2 + 1, none⟩ = some (.slice a3 args.length cap5) := cell_below hb2 (hcs2 1 (by omega))
            have hb3 := below_next' hb2 (below_alloc1 wC (.cells #[.string cname, .slice a3 args.length cap5] 31))
            have H2 := Lib.hid (And.intro hin.out (And.intro hb3 (And.intro hrow3 hc)))
            clear hin hb2 hb3 hrow3 hcs2 hc
            by_cases hcname : 40 < cname.size
            · have hcname' : (40 : Int) < (cname.size : Int) := by omega
              go_wp2_with fail
              go_ret
              exact ⟨false, rfl, H2.out.2.1, fun h => by cases h⟩
            by_cases hcmany : 8 < args.length
            · have hcname' : ¬ (40 : Int) < (cname.size : Int) := by omega
              have hcmany' : (8 : Int) < (args.length : Int) := by omega
              go_wp2_with fail
              go_ret
              exact ⟨false, rfl, H2.out.2.1, fun h => by cases h⟩
            have hcname' : ¬ (40 : Int) < (cname.size : Int) := by omega
            have hcmany' : ¬ (8 : Int) < (args.length : Int) := by omega
            have hX : BoxV ((wC.alloc (.cells #[.string cname, .slice a3 args.length cap5] 31)).alloc (.cells #[.int .i64 20] 3)) w.heap.size (wC.heap.size + 1) 3 [.int .i64 20] := by
              have := BoxV.new (wC.alloc (.cells #[.string cname, .slice a3 args.length cap5] 31)) w.heap.size 3 H2.out.2.1.size [.int .i64 20]
              simpa using this
            have hb4 := H2.out.2.1.alloc H2.out.2.1.size (.cells #[.int .i64 20] 3)
            have H3 := Lib.hid (And.intro hX hb4)
            have hge : w.heap.size ≤ wC.heap.size + 1 := by have := H2.out.2.1.size; simpa using this
            clear hX hb4
            go_wp2_with fail
            clear k0 k1
            generalize (wC.alloc (.cells #[.string cname, .slice a3 args.length cap5] 31)).alloc (.cells #[.int .i64 20] 3) = wd at H3 ⊢
            go_loopw [49] (fun x w3 => ∃ (q : Nat) (L1 : Int), q ≤ args.length ∧ x = .int .i64 q ∧ 0 ≤ L1 ∧ L1 ≤ 20 ∧ (sizeL (args.take q) : Int) = 20 - L1 ∧ Below w.heap.size w w3 ∧ BoxV w3 w.heap.size (wC.heap.size + 1) 3 [.int .i64 L1]) (fun x _ => args.length - (intOf x).toNat)
            case atStart => exact ⟨0, 20, Nat.zero_le _, rfl, by omega, by omega, by simp [sizeL], H3.out.2, H3.out.1⟩
            case round =>
              obtain ⟨wE, hwE⟩ : ∃ y, y = wr := ⟨_, rfl⟩
              subst hwE
              obtain ⟨q, L1, hq, rfl, hL1, hL2, hsz, hb5, hB5⟩ := hrel
              by_cases hltq : q < args.length
              · have hqq : (q : Int) < (args.length : Int) := by omega
                obtain ⟨b3, o3, cs3, rfl, hcl3, hcs3, hTq⟩ := H2.out.2.2.1 q hltq
                match cs3, hcl3 with
                | [t0, t1, t2], _ =>
                  obtain ⟨k0, u0, a0, m0, c0, e0⟩ : ∃ k u a m c, [t0, t1, t2] = [Value.int .i64 k, .int .i64 u, .slice a m c] := tp_shape hTq
                  simp only [List.cons.injEq, and_true] at e0
                  obtain ⟨rfl, rfl, rfl⟩ := e0
                  have j0 : wE.cell? ⟨b3, o3 + q * 3, none⟩ = some (.int .i64 k0) := cell_below hb5 (hcs3 0 (by omega))
                  have j1 : wE.cell? ⟨b3, o3 + q * 3 + 1, none⟩ = some (.int .i64 u0) := cell_below hb5 (hcs3 1 (by omega))
                  have j2 : wE.cell? ⟨b3, o3 + q * 3 + 2, none⟩ = some (.slice a0 m0 c0) := cell_below hb5 (hcs3 2 (by omega))
                  have hb6 := below_next' hb5 (below_alloc1 wE (.cells #[.int .i64 k0, .int .i64 u0, .slice a0 m0 c0] 25))
                  have hB6 := hB5.alloc (.cells #[.int .i64 k0, .int .i64 u0, .slice a0 m0 c0] 25)
                  have hst := sizeL_take hltq
                  have H4 := Lib.hid (And.intro hTq (And.intro hb6 (And.intro hB6 (And.intro hsz hst))))
                  clear hTq hb6 hB6 hcs3 hsz hst hb5 hB5
                  go_wp2_with fail
                  refine (typ_any w (wC.heap.size + 1) n _ _ H4.out.1 _ L1 H4.out.2.1 H4.out.2.2.1 hL1 (by omega)).mono ?_
                  rintro e w6 ⟨rfl, hg6, hB7⟩
                  have hbd := tpT_bound args[q] L1 hL1
                  obtain ⟨r, hr⟩ : ∃ r, tpT args[q] L1 = r := ⟨_, rfl⟩
                  obtain ⟨b1, L3⟩ := r
                  rw [hr] at hB7 hbd ⊢
                  have hb8 := H4.out.2.1.grown hg6 H4.out.2.1.size (fun q hq => by cases hq; exact hge)
                  clear hr hg6 j0 j1 j2
                  cases b1
                  · have HF := Lib.hid hb8
                    clear hb8 hB7 hbd
                    go_wp2_with fail
                    go_ret
                    exact ⟨false, rfl, HF.out, fun h => by cases h⟩
                  · have h2 := hbd.2 rfl
                    have h3 : L3 = L1 - size args[q] := h2.1
                    have h4 : (size args[q] : Int) ≤ L1 := h2.2
                    have h5 : (sizeL (args.take (q + 1)) : Int) = 20 - L3 := by have := H4.out.2.2.2.1; have := H4.out.2.2.2.2; omega
                    have HF := Lib.hid (And.intro h5 (And.intro hb8 hB7))
                    have h6 : 0 ≤ L3 := by omega
                    have h7 : L3 ≤ 20 := by omega
                    clear hb8 hB7 hbd h2 h3 h4 h5
                    go_wp2_with fail
                    go_roundw
                    case rel => exact ⟨q + 1, L3, by omega, by go_num, h6, h7, HF.out⟩
                    case measure => simp [intOf] <;> omega
              · obtain rfl : q = args.length := by omega
                have hok : ConOk ⟨cname, args⟩ := ⟨by show args.length ≤ 8; omega, by rw [List.take_length] at hsz; show sizeL args ≤ 20; omega⟩
                have HF := Lib.hid (And.intro (show ∀ q (h : q < cons.length), q < j + 1 → ConOk cons[q] from fun q h hq => by
                  by_cases e : q = j
                  · subst e
                    rw [H2.out.2.2.2]
                    exact hok
                  · exact H2.out.1 q h (by omega)) hb5)
                clear hok hsz hb5 hB5 hltq
                go_wp2_with fail
                go_roundw
                case rel => exact ⟨j + 1, by omega, by go_num, Lib.hid HF.out.1, HF.out.2⟩
                case measure => simp [intOf] <;> omega
          · obtain rfl : j = cons.length := by omega
            have hok : DecOk ⟨name, vars, cons⟩ := ⟨by show cons.length ≤ 10; omega, fun q h => hin.out q h h⟩
            have HF := Lib.hid (And.intro (show ∀ q (h : q < l.length), q < i + 1 → DecOk l[q] from fun q h hq => by
              by_cases e : q = i
              · subst e
                rw [H1.out.2.2.2]
                exact hok
              · exact H1.out.1 q h (by omega)) hb2)
            clear hok hin hb2 hltj
            go_wp2_with fail
            go_roundw
            case rel => exact ⟨i + 1, by omega, by go_num, Lib.hid HF.out.1, HF.out.2⟩
            case measure => simp [intOf] <;> omega
      · obtain rfl : i = l.length := by omega
        have HF := Lib.hid (And.intro hb (show DecsOk l from ⟨HA.out.2, fun q h => hall.out q h h⟩))
        clear hb hall hlt
        go_wp2_with fail
        go_ret
        exact ⟨true, rfl, HF.out.1, fun _ => HF.out.2⟩
  · have hlen' : (14 : Int) < (l.length : Int) := by omega
    clear hrow
    go_enter Try.func5, Try.ntmps5
    go_wp2_with fail
    go_ret
    exact ⟨false, rfl, Below.refl _ _, fun h => by cases h⟩
end Go.Proofs.Ytkobfnpkebgmjaa
