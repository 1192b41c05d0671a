/-
  The walk of the reference's Fields. Conditions: a short list of declarations with small types, a type of at most 250 nodes.
-/
import Derived.Test.YtkobfnpkebgmjaaTpFields
namespace Go.Proofs.Ytkobfnpkebgmjaa
open Go.RowKit Go.Deep

set_option maxRecDepth 100000 in
set_option maxHeartbeats 8000000 in
theorem refFields_any (n m : Nat) (vd : Value) (l : List Dec) (cs : List Value) (T : Tp) (c : Int) (w : World) (hd : DecsC w.cell? n vd l) (hok : DecsOk l) (hT : TpC w.cell? (m + 1) cs T) (hsz : size T ≤ 250) :
    Calls Try.prog 8 #[vd, .agg cs.toArray, .int .i64 c] w (FieldsP l T c (n + m) w) := by
  obtain ⟨k, u, us⟩ := T
  obtain ⟨v, rfl, hk, hu, hrowU⟩ := hT
  have hrowU' := hrowU
  obtain ⟨a, cap, rfl, hcap, hcap2, -⟩ := hrowU
  obtain ⟨ad, cd, rfl, hcd, hcd2, hrowD⟩ := hd
  have hb1 := below_alloc1 w (.cells #[.int .i64 k, .int .i64 u, .slice a us.length cap] 25)
  have HA := Lib.hid (And.intro (show TpsC w.cell? m _ us from hrowU') (And.intro hrowD (And.intro hok (And.intro hsz hb1))))
  have hPb := BoxV.new w w.heap.size 25 (Nat.le_refl _) [.int .i64 k, .int .i64 u, .slice a us.length cap]
  have y0 : (w.alloc (.cells #[.int .i64 k, .int .i64 u, .slice a us.length cap] 25)).cell? ⟨w.heap.size, 0, none⟩ = some (.int .i64 k) := hPb.cell 0 (by simp)
  have y1 : (w.alloc (.cells #[.int .i64 k, .int .i64 u, .slice a us.length cap] 25)).cell? ⟨w.heap.size, 1, none⟩ = some (.int .i64 u) := hPb.cell 1 (by simp)
  have y2 : (w.alloc (.cells #[.int .i64 k, .int .i64 u, .slice a us.length cap] 25)).cell? ⟨w.heap.size, 2, none⟩ = some (.slice a us.length cap) := hPb.cell 2 (by simp)
  clear hrowU' hrowD hok hsz hb1
  by_cases h1 : (k != 5) = true
  · have hk5 : ¬ k = 5 := by simpa using h1
    have hN := Lib.hid (show fieldsR l (.mk k u us) c = none from by
      rw [fieldsR_mk]
      rw [if_neg (fun h => hk5 h.1)])
    clear hk5
    go_enter Try.func8, Try.ntmps8
    go_wp2_with fail
    go_quiet (fail)
    go_wp2
    go_ret2
    exact .none hN.out (HA.out.2.2.2.2.grown (grown_drewN _ _ none) HA.out.2.2.2.2.size (by simp))
  have h1' : (k != 5) = false := by simpa using h1
  have hk5 : k = 5 := by simpa using h1'
  clear h1
  by_cases h2 : decide (u < 0) = true
  · have hu0 : u < 0 := of_decide_eq_true h2
    have hN := Lib.hid (show fieldsR l (.mk k u us) c = none from by
      rw [fieldsR_mk]
      rw [if_neg (fun h => by omega)])
    clear hu0 hk5
    go_enter Try.func8, Try.ntmps8
    go_wp2_with fail
    go_quiet (fail)
    go_wp2
    go_ret2
    exact .none hN.out (HA.out.2.2.2.2.grown (grown_drewN _ _ none) HA.out.2.2.2.2.size (by simp))
  have h2' : decide (u < 0) = false := by simpa using h2
  have hu0 : 0 ≤ u := by have := of_decide_eq_false h2'; omega
  clear h2
  by_cases h3 : decide ((l.length : Int) ≤ u) = true
  · have hul : (l.length : Int) ≤ u := by have := of_decide_eq_true h3; omega
    have hN := Lib.hid (show fieldsR l (.mk k u us) c = none from by
      rw [fieldsR_mk]
      rw [List.getElem?_eq_none (by omega)]
      split <;> rfl)
    clear hul hk5 hu0
    go_enter Try.func8, Try.ntmps8
    go_wp2_with fail
    go_quiet (fail)
    go_wp2
    go_ret2
    exact .none hN.out (HA.out.2.2.2.2.grown (grown_drewN _ _ none) HA.out.2.2.2.2.size (by simp))
  have h3' : decide ((l.length : Int) ≤ u) = false := by simpa using h3
  obtain ⟨uN, rfl⟩ : ∃ q : Nat, u = (q : Int) := ⟨u.toNat, by omega⟩
  have hul : uN < l.length := by have := of_decide_eq_false h3'; omega
  have h3n : decide (l.length ≤ uN) = false := decide_eq_false (by omega)
  clear h3
  obtain ⟨b, o, cs', rfl, hcl, hcs, v2, rfl, hns, hvars, hcons⟩ := HA.out.2.1 uN hul
  obtain ⟨d, hdE⟩ : ∃ d, l[uN] = d := ⟨_, rfl⟩
  have hdok := HA.out.2.2.1.2 uN hul
  rw [hdE] at hcs hns hvars hcons hdok
  obtain ⟨name, vars, cons⟩ := d
  simp only at hcs hns hvars hcons
  obtain ⟨a2, cap2, rfl, hcap3, hcap4, hrow2⟩ := hcons
  have i1 : (w.alloc (.cells #[.int .i64 k, .int .i64 uN, .slice a us.length cap] 25)).cell? ⟨b, o + uN * 3 + 1, none⟩ = some (.int .i64 vars) := cell_below HA.out.2.2.2.2 (hcs 1 (by omega))
  have i2 : (w.alloc (.cells #[.int .i64 k, .int .i64 uN, .slice a us.length cap] 25)).cell? ⟨b, o + uN * 3 + 2, none⟩ = some (.slice a2 cons.length cap2) := cell_below HA.out.2.2.2.2 (hcs 2 (by omega))
  have hlk : l[(uN : Int).toNat]? = some ⟨name, vars, cons⟩ := by rw [Int.toNat_natCast, List.getElem?_eq_getElem hul, hdE]
  have HD := Lib.hid (And.intro hrow2 (And.intro hdok hlk))
  clear hrow2 hdok hlk hcs hdE
  by_cases h4 : ((us.length : Int) != vars) = true
  · have hne : ¬ (us.length : Int) = vars := by simpa using h4
    have hN := Lib.hid (show fieldsR l (.mk k uN us) c = none from by
      rw [fieldsR_mk]
      rw [HD.out.2.2]
      simp only
      rw [if_neg hne]
      split <;> rfl)
    clear hne hk5
    go_enter Try.func8, Try.ntmps8
    go_wp2_with fail
    go_quiet (fail)
    go_wp2
    go_ret2
    exact .none hN.out (HA.out.2.2.2.2.grown (grown_drewN _ _ none) HA.out.2.2.2.2.size (by simp))
  have h4' : ((us.length : Int) != vars) = false := by simpa using h4
  have heq : (us.length : Int) = vars := by simpa using h4'
  have hq := Lib.hid heq
  clear h4 heq
  by_cases h5 : c < 0
  · have hN := Lib.hid (show fieldsR l (.mk k uN us) c = none from by
      rw [fieldsR_mk]
      rw [if_neg (fun h => by omega)])
    clear hk5
    go_enter Try.func8, Try.ntmps8
    go_wp2_with fail
    go_quiet (fail)
    go_wp2
    go_ret2
    exact .none hN.out (HA.out.2.2.2.2.grown (grown_drewN _ _ none) HA.out.2.2.2.2.size (by simp))
  obtain ⟨cN, rfl⟩ : ∃ q : Nat, c = (q : Int) := ⟨c.toNat, by omega⟩
  by_cases h6 : cons.length ≤ cN
  · have h6' : (cons.length : Int) ≤ (cN : Int) := by omega
    have hN := Lib.hid (show fieldsR l (.mk k uN us) (cN : Int) = none from by
      rw [fieldsR_mk]
      rw [HD.out.2.2]
      simp only
      rw [Int.toNat_natCast, List.getElem?_eq_none h6]
      split
      · split <;> rfl
      · rfl)
    clear hk5
    go_enter Try.func8, Try.ntmps8
    go_wp2_with fail
    go_quiet (fail)
    go_wp2
    go_ret2
    exact .none hN.out (HA.out.2.2.2.2.grown (grown_drewN _ _ none) HA.out.2.2.2.2.size (by simp))
  have h6' : ¬ (cons.length : Int) ≤ (cN : Int) := by omega
  have h6n : cN < cons.length := by omega
  obtain ⟨b2, o2, cs2, rfl, hcl2, hcs2, v3, rfl, hcn, hargs⟩ := HD.out.1 cN h6n
  obtain ⟨x, hxE⟩ : ∃ x, cons[cN] = x := ⟨_, rfl⟩
  have hcok := HD.out.2.1.2 cN h6n
  have hcok' : ConOk cons[cN] := hcok
  rw [hxE] at hcs2 hcn hargs hcok'
  obtain ⟨cname, args⟩ := x
  simp only at hcs2 hcn hargs
  obtain ⟨a3, cap5, rfl, hcap5, hcap6, hrow3⟩ := hargs
  have hal : args.length ≤ 8 := hcok'.1
  have k1 : w.cell? ⟨b2, o2 + cN * 2 + 1, none⟩ = some (.slice a3 args.length cap5) := hcs2 1 (by omega)
  obtain ⟨R, hR⟩ : ∃ R, fieldsR l (.mk k uN us) cN = R := ⟨_, rfl⟩
  have hRv : R = if (args.all fun t => decide (size (sub us t) ≤ 200)) = true then some (subL us args) else none := by
    rw [← hR, fieldsR_mk, if_pos ⟨hk5, by omega, by omega⟩, HD.out.2.2]
    simp only
    rw [if_pos hq.out, Int.toNat_natCast, List.getElem?_eq_getElem h6n, hxE]
  have HE := Lib.hid (And.intro hRv (And.intro hR (And.intro hcok'.2 (And.intro (show TpsC w.cell? n _ args from ⟨_, _, rfl, hcap5, hcap6, hrow3⟩) (And.intro hPb k1)))))
  clear hRv hR hcok hcok' hrow3 hPb hk5 hcs2 hxE k1 hcl2 hcl
  have k1 := cell_below HA.out.2.2.2.2 HE.out.2.2.2.2.2
  have h5' : decide ((cN : Int) < 0) = false := decide_eq_false (by omega)
  have h6d : decide ((cons.length : Int) ≤ (cN : Int)) = false := decide_eq_false h6'
  have h6e : decide (cons.length ≤ cN) = false := decide_eq_false h6
  go_enter Try.func8, Try.ntmps8
  go_wp2_with fail
  go_quiet (fail)
  have hW1 := HA.out.2.2.2.2.grown (grown_drewN _ nq none) HA.out.2.2.2.2.size (by simp)
  have hP1 := HE.out.2.2.2.2.1.kept (grown_drewN _ nq none) (by simp)
  have H1 := Lib.hid (And.intro hW1 hP1)
  have k1' : ((w.alloc (.cells #[.int .i64 k, .int .i64 uN, .slice a us.length cap] 25)).drewN nq).cell? ⟨b2, o2 + cN * 2 + 1, none⟩ = some (.slice a3 args.length cap5) := k1
  have i2' : ((w.alloc (.cells #[.int .i64 k, .int .i64 uN, .slice a us.length cap] 25)).drewN nq).cell? ⟨b, o + uN * 3 + 2, none⟩ = some (.slice (some ⟨b2, o2, none⟩) cons.length cap2) := i2
  have y1' : ((w.alloc (.cells #[.int .i64 k, .int .i64 uN, .slice a us.length cap] 25)).drewN nq).cell? ⟨w.heap.size, 1, none⟩ = some (.int .i64 uN) := y1
  clear k1 i1 i2 y0 y1 y2 hW1 hP1
  generalize (w.alloc (.cells #[.int .i64 k, .int .i64 uN, .slice a us.length cap] 25)).drewN nq = W1 at H1 k1' i2' y1' ⊢
  go_wp2_with fail
  clear k1' i2' y1' h1' h2' h3' h3n h4' h5 h6' h6 hcn h5' h6d h6e
  go_loopw [8, 65] (fun v0 x wr => ∃ i : Nat, i ≤ args.length ∧ x = .int .i64 i ∧ Hid (∀ j (h : j < args.length), j < i → size (sub us args[j]) ≤ 200) ∧ Below w.heap.size w wr ∧ BoxV wr w.heap.size w.heap.size 25 [.int .i64 k, .int .i64 uN, .slice a us.length cap] ∧ TpOwn wr (w.heap.size + 1) (n + m) v0 (subL us (args.take i))) (fun _ x _ => args.length - (intOf x).toNat)
  case atStart => exact ⟨0, Nat.zero_le _, rfl, Lib.hid fun j _ h => by omega, H1.out.1, H1.out.2, by rw [List.take_zero, subL]; exact TpOwn.nil _ _ _⟩
  case round =>
    obtain ⟨wC, hwC⟩ : ∃ y, y = wr := ⟨_, rfl⟩
    subst hwC
    obtain ⟨i, hi, rfl, hall, hb, hP, hF⟩ := hrel
    by_cases hlt : i < args.length
    · have hii : (i : Int) < (args.length : Int) := by omega
      obtain ⟨b3, o3, t0, t1, t2, rfl, j0, j1, j2, hTi⟩ := HE.out.2.2.2.1.cells hlt
      obtain ⟨k0, u0, a0, m0, c0, e0⟩ := tp_shape hTi
      simp only [List.cons.injEq, and_true] at e0
      obtain ⟨rfl, rfl, rfl⟩ := e0
      have i0 := cell_below hb j0
      have i1 := cell_below hb j1
      have i2 := cell_below hb j2
      have hb2 := below_next' hb (below_alloc1 wC (.cells #[.int .i64 k0, .int .i64 u0, .slice a0 m0 c0] 25))
      have hbA := below_alloc1 wC (.cells #[.int .i64 k0, .int .i64 u0, .slice a0 m0 c0] 25)
      have hP2 := hP.below hbA
      have hF2 := hF.below hbA
      have d2 := hP2.cell 2 (by simp)
      have hsu : ∀ t ∈ us, size t ≤ 1000000 := fun t ht => by have := size_mem ht; have h2 := HA.out.2.2.2.1; rw [size] at h2; omega
      have hsi20 : size args[i] ≤ 20 := by have := size_mem (List.getElem_mem hlt); have h3 : sizeL args ≤ 20 := HE.out.2.2.1; omega
      have hcall := subst_any us m (.slice a us.length cap) hsu n [.int .i64 k0, .int .i64 u0, .slice a0 m0 c0] args[i] _ (hTi.kept fun _ _ h => cell_below hb2 h) (HA.out.1.kept fun _ _ h => cell_below hb2 h) (by omega)
      have hss : size (sub us args[i]) ≤ 1000000 := by
        have h2 := HA.out.2.2.2.1
        rw [size] at h2
        have := size_sub us 250 (fun t ht => by have := size_mem ht; omega) (by omega) args[i]
        have h4 : size args[i] * 250 ≤ 20 * 250 := Nat.mul_le_mul_right _ hsi20
        omega
      have HC := Lib.hid (And.intro hcall (And.intro hb2 (And.intro hP2 (And.intro hF2 (And.intro hss hall.out)))))
      clear hcall hb2 hP2 hF2 hbA hP hb hF hall hsu hsi20 hTi j0 j1 j2 hss
      go_wp2_with fail
      refine HC.out.1.mono ?_
      rintro e w6 ⟨r, rfl, hb6, k1, u1, a1, m1, c1, rfl, hx⟩
      have hb7 := below_next' HC.out.2.1 hb6
      have hP6 := HC.out.2.2.1.below hb6
      have hF6 := HC.out.2.2.2.1.below hb6
      have hbA := below_alloc1 w6 (.cells #[.int .i64 k1, .int .i64 u1, .slice a1 m1 c1] 25)
      have hX := BoxV.new w6 w.heap.size 25 hb7.size [.int .i64 k1, .int .i64 u1, .slice a1 m1 c1]
      have hx2 := hx.kept (cut_below hbA (T := fun b => wC.heap.size + 1 ≤ b) fun b hb => by simp only [World.size_alloc] at hb; exact hb)
      have hcall := size_any (n + m) [.int .i64 k1, .int .i64 u1, .slice a1 m1 c1] (sub us args[i]) _ (hx2.kept cut_cell) HC.out.2.2.2.2.1
      have HG := Lib.hid (And.intro hcall (And.intro (below_next' hb7 hbA) (And.intro (hP6.below hbA) (And.intro (hF6.below hbA) (And.intro hX hx2)))))
      clear hb7 hP6 hF6 hbA hX hx2 hcall hb6 hx i0 i1 i2 d2
      go_wp2_with fail
      refine HG.out.1.mono ?_
      rintro e w7 ⟨rfl, hb7⟩
      obtain ⟨S, hS⟩ : ∃ S, size (sub us args[i]) = S := ⟨_, rfl⟩
      rw [hS]
      by_cases hbig : S ≤ 200
      · have hbig' : ¬ (200 : Int) < (S : Int) := by omega
        have hX7 := HG.out.2.2.2.2.1.below hb7
        have x0 := hX7.cell 0 (by simp)
        have x1 := hX7.cell 1 (by simp)
        have x2 := hX7.cell 2 (by simp)
        have hbA := below_alloc1 w7 (.cells #[.int .i64 k1, .int .i64 u1, .slice a1 m1 c1] 25)
        have hb8 := below_next' (below_next' HG.out.2.1 hb7) hbA
        have hF8 := (HG.out.2.2.2.1.below hb7).below hbA
        have hP8 := (HG.out.2.2.1.below hb7).below hbA
        have hB8 := BoxV.new w7 w7.heap.size 25 (Nat.le_refl _) [.int .i64 k1, .int .i64 u1, .slice a1 m1 c1]
        have hnews := three_at (hB8.cell 0 (by simp)) (hB8.cell 1 (by simp)) (hB8.cell 2 (by simp))
        have hown := own_len HC.out.2.2.2.1
        have hx8 : TpC (cut (w7.alloc (.cells #[.int .i64 k1, .int .i64 u1, .slice a1 m1 c1] 25)) (fun b => w.heap.size + 1 ≤ b ∧ some b ≠ u8.ownBlock)) (n + m) [.int .i64 k1, .int .i64 u1, .slice a1 m1 c1] (sub us args[i]) :=
          (HG.out.2.2.2.2.2.kept (cut_below hb7 fun _ h => h)).kept (cut_below hbA fun b hb => by
            have h1 : wC.heap.size + 1 ≤ b := hb
            have h2 := HC.out.2.1.size
            simp only [World.size_alloc] at h2
            have hPb := HC.out.2.2.1.block.2
            simp only [World.size_alloc] at hPb
            refine ⟨by omega, fun e => ?_⟩
            have h3 := (hown b e.symm).2
            simp only [World.size_alloc] at h3
            omega)
        have hlI : (subL us (args.take i)).length ≤ 1000000 := by rw [subL_length, List.length_take]; omega
        have hB9 : w.heap.size + 1 ≤ (w7.alloc (.cells #[.int .i64 k1, .int .i64 u1, .slice a1 m1 c1] 25)).heap.size := by have := HG.out.2.1.size; have := hb7.size; simp; simp at *; omega
        have HK := Lib.hid (And.intro hF8 (And.intro hP8 (And.intro hb8 (And.intro hnews (And.intro hx8 (And.intro hlI (And.intro hB9 hbig)))))))
        clear hX7 hbA hb8 hF8 hP8 hB8 hnews hown hx8 hlI hB9 hb7 hbig
        go_wp2_with (at_builtin; refine wpList_append_tp rfl _ _ rfl (w.heap.size + 1) (n + m) u8 (subL us (args.take i)) rfl HK.out.1 ⟨w7.heap.size, 0, none⟩ 1 _ _ _ _ rfl HK.out.2.2.2.1 HK.out.2.2.2.2.1 HK.out.2.2.2.2.2.1 HK.out.2.2.2.2.2.2.1 ?_; intro v9 w9 hT9 hg9 hv9; have H9 := Lib.hid (And.intro hT9 hg9); clear hT9 hg9 hv9)
        go_roundw
        case rel =>
          have hlt9 := own_len HK.out.1
          refine ⟨i + 1, by omega, by go_num, Lib.hid fun j h hj => ?_, HK.out.2.2.1.grown H9.out.2 HK.out.2.2.1.size (fun q hq => by have := (hlt9 q hq).1; omega), HK.out.2.1.kept H9.out.2 (fun e => by have := (hlt9 _ e.symm).1; omega), by rw [List.take_succ_eq_append_getElem hlt, subL_append]; exact H9.out.1⟩
          by_cases e : j = i
          · subst e
            rw [hS]
            exact HK.out.2.2.2.2.2.2.2
          · exact HC.out.2.2.2.2.2 j h (by omega)
        case measure => simp [intOf] <;> omega
      · have hbig' : (200 : Int) < (S : Int) := by omega
        have hN : R = none := by
          rw [HE.out.1, if_neg]
          intro h
          have := of_decide_eq_true (List.all_eq_true.1 h _ (List.getElem_mem hlt))
          omega
        have HF := Lib.hid (show FieldsP l (.mk k uN us) cN (n + m) w (.returned (.tuple #[.slice none 0 0, .bool false])) w7 from .none (HE.out.2.1.trans hN) (below_next' HG.out.2.1 hb7))
        clear hN hb7 hS
        go_wp2_with fail
        go_ret2
        exact HF.out
    · obtain rfl : i = args.length := by omega
      rw [List.take_length] at hF
      have hlen := subL_length us args
      have hfin : FieldsP l (.mk k uN us) cN (n + m) w (.returned (.tuple #[u8, .bool true])) wC := by
        refine ⟨_, _, rfl, hb, ?_⟩
        unfold FieldsR
        rw [HE.out.2.1, HE.out.1, if_pos (List.all_eq_true.2 fun t ht => by
          obtain ⟨j, hj, rfl⟩ := List.getElem_of_mem ht
          exact decide_eq_true (hall.out j hj hj))]
        exact ⟨rfl, hF.tps.kept (cut_le fun b h => by have h1 : w.heap.size + 1 ≤ b := h; omega)⟩
      have HF := Lib.hid hfin
      clear hfin hF hb hP hall hlt hlen
      go_wp2_with fail
      go_ret2
      exact HF.out
end Go.Proofs.Ytkobfnpkebgmjaa
