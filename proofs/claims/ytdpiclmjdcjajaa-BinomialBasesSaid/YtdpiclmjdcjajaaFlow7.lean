/-
  A region in its one order, by what is known of each slot. Of any program.
-/
import Derived.Test.YtdpiclmjdcjajaaFlow6
namespace Go.Proofs.Ytdpiclmjdcjajaa
open Go.RowKit

theorem flow_start {F : Tmp → World → Value → Prop} {ops : Array Oper} {A : Act} {W W' : World} (hW : Below W.heap.size W W') (L : List Tmp) (hL : flowOuts ops L = true) (h0 : ∀ t ∈ L, F t W (A.tmps.getD t undef)) (hdraw : ∀ t v, F t W v → F t W' v) :
    FlowI F ops A W (Array.replicate ops.size false) A W' := by
  refine ⟨hW, rfl, rfl, by simp, fun t ⟨i, o, hi, hto⟩ hl => ?_, fun _ _ => rfl⟩
  have hno : ∀ j, slotAt ops j ≠ some t := by
    intro j hj
    have hlt : j < ops.size := by
      rcases Nat.lt_or_ge j ops.size with h | h
      · exact h
      · unfold slotAt at hj
        rw [Array.getElem?_eq_none h] at hj
        cases hj
    have := hl j hj
    simp [Array.getD_eq_getD_getElem?, hlt] at this
  rcases hto with hto | hto
  · refine hdraw _ _ (h0 t ?_)
    unfold flowOuts at hL
    rw [List.all_eq_true] at hL
    have hlt : i < ops.size := by
      rcases Nat.lt_or_ge i ops.size with h | h
      · exact h
      · rw [Array.getElem?_eq_none h] at hi
        cases hi
    have := hL i (by simpa using hlt)
    rw [hi] at this
    simp only [List.all_eq_true, Bool.or_eq_true, List.any_eq_true, List.mem_range, beq_iff_eq] at this
    rcases this t hto with h | ⟨j, _, h⟩
    · simpa using h
    · exact absurd h (hno j)
  · exact absurd (show slotAt ops i = some t by unfold slotAt; rw [hi]; exact hto) (hno i)

set_option maxHeartbeats 1000000 in
theorem flow_step {P : Program} {F : Tmp → World → Value → Prop} {ops : Array Oper} {Q : Exit → Act → World → Prop} {A : Act} {W : World}
    (mono : ∀ t w w' v, Below w.heap.size w w' → F t w v → F t w' v) (hok : flowOk ops = true) (hroom : flowRoom ops A.tmps.size = true) (steps : FlowSteps P F (slotAt ops) ops.toList) :
    ∀ i l a w, i ∈ Region.ready .any ops l → FlowI F ops A W l a w → wpOp P ops Q i (FlowI F ops A W (l.setIfInBounds i true)) a w := by
  unfold flowOk at hok
  rw [List.all_eq_true] at hok
  intro i l a w hi hI
  have hlt := (ready_left hi)
  obtain ⟨o, ho⟩ : ∃ o, ops[i]? = some o := ⟨_, Array.getElem?_eq_getElem hlt.1⟩
  have hoki := hok i (by simpa using hlt.1)
  rw [ho] at hoki
  simp only [Bool.and_eq_true, List.all_eq_true, Bool.or_eq_true, bne_iff_ne, ne_eq, List.mem_range, Array.any_eq_true', beq_iff_eq] at hoki
  obtain ⟨⟨_, huniq⟩, hlooks⟩ := hoki
  have hready : ∀ e ∈ o.after, Region.binds .any e = true → l.getD e.on false = true := by
    have hi' := hi
    simp only [Region.ready, List.mem_filter, List.mem_range, Bool.and_eq_true, ho, Option.map_some, Option.getD_some, Array.all_eq_true', Bool.or_eq_true, Bool.not_eq_true'] at hi'
    intro e he hb
    rcases hi'.2.2 e he with h | h
    · rw [hb] at h; cases h
    · exact h
  have huniqj : ∀ d, o.dst = some d → ∀ j, slotAt ops j = some d → j = i := by
    intro d hd j hj
    rw [hd] at huniq
    simp only [List.all_eq_true, List.mem_range, Bool.or_eq_true, beq_iff_eq, bne_iff_ne, ne_eq] at huniq
    have hlt : j < ops.size := by
      rcases Nat.lt_or_ge j ops.size with h | h
      · exact h
      · unfold slotAt at hj
        rw [Array.getElem?_eq_none h] at hj
        cases hj
    rcases huniq j hlt with h | h
    · exact h
    · exact absurd hj h
  have hfacts : ∀ t, (.tmp t ∈ o.op.operands.toList ∨ ∃ g, o.guard = some g ∧ slotAt ops g.1 = some t) → F t w (a.tmps.getD t undef) := by
    intro t ht
    have hmem := looksAt_mem ht
    refine hI.facts t ⟨i, o, ho, .inl hmem⟩ ?_
    intro j hj
    rcases hlooks t hmem with h | ⟨e, he, hb, hs⟩
    · have hlt : j < ops.size := by
        rcases Nat.lt_or_ge j ops.size with h | h
        · exact h
        · unfold slotAt at hj
          rw [Array.getElem?_eq_none h] at hj
          cases hj
      exact absurd hj (h j hlt)
    · have hl := hready e he hb
      have hje : j = e.on := by
        have hlt : e.on < ops.size := by
          rcases Nat.lt_or_ge e.on ops.size with h | h
          · exact h
          · unfold slotAt at hs
            rw [Array.getElem?_eq_none h] at hs
            cases hs
        have hoke := hok e.on (by simpa using hlt)
        obtain ⟨o', ho'⟩ : ∃ o', ops[e.on]? = some o' := ⟨_, Array.getElem?_eq_getElem hlt⟩
        rw [ho'] at hoke
        have hd' : o'.dst = some t := by unfold slotAt at hs; rw [ho'] at hs; exact hs
        simp only [Bool.and_eq_true, hd', List.all_eq_true, List.mem_range, Bool.or_eq_true, beq_iff_eq, bne_iff_ne, ne_eq] at hoke
        have hltj : j < ops.size := by
          rcases Nat.lt_or_ge j ops.size with h | h
          · exact h
          · unfold slotAt at hj
            rw [Array.getElem?_eq_none h] at hj
            cases hj
        rcases hoke.1.2 j hltj with h | h
        · exact h
        · exact absurd hj h
      rw [hje]
      have hlt : e.on < l.size := by
        rcases Nat.lt_or_ge e.on l.size with h | h
        · exact h
        · simp [Array.getD_eq_getD_getElem?, Array.getElem?_eq_none h] at hl
      simp only [Array.getD_eq_getD_getElem?, Array.getElem?_eq_getElem hlt, Option.getD_some] at hl ⊢
      exact hl
  have hst := flowSteps_get steps (i := i) (o := o) (by simpa using ho) a w Q hfacts
  have hw := flow_wanted (ops := ops) (a := a) (o := o) (by rw [hI.size]; exact hroom)
  have next : ∀ v w', Below w.heap.size w w' → (∀ d, o.dst = some d → F d w' v) → FlowI F ops A W (l.setIfInBounds i true) (a.put o.dst v) w' := by
    intro v w' hb hd
    have hlst : ∀ j, j ≠ i → (l.setIfInBounds i true).getD j true = l.getD j true := by
      intro j hj
      have : i ≠ j := fun e => hj e.symm
      simp [Array.getD_eq_getD_getElem?, this]
    have hdlt : ∀ d, o.dst = some d → d < a.tmps.size := by
      intro d hd'
      rw [hI.size]
      unfold flowRoom at hroom
      rw [List.all_eq_true] at hroom
      have := hroom i (by simpa using hlt.1)
      have hs : slotAt ops i = some d := by unfold slotAt; rw [ho]; exact hd'
      rw [hs] at this
      simpa using this
    refine ⟨below_next hI.B hb, by rw [put_size]; exact hI.size, ?_, by simpa using hI.lsize, ?_, ?_⟩
    · cases o.dst <;> exact hI.defers
    · intro t ht hl
      cases hdst : o.dst with
      | none =>
        show F t w' (a.tmps.getD t undef)
        refine mono t w w' _ hb (hI.facts t ht fun j hj => ?_)
        have hne : j ≠ i := by
          rintro rfl
          unfold slotAt at hj
          rw [ho] at hj
          simp only [Option.bind_some, hdst] at hj
          cases hj
        rw [← hlst j hne]
        exact hl j hj
      | some d =>
        rw [put_getD _ _ _ _ (hdlt d hdst)]
        by_cases h : d = t
        · rw [if_pos h]
          subst h
          exact hd d hdst
        · rw [if_neg h]
          refine mono t w w' _ hb (hI.facts t ht fun j hj => ?_)
          have hne : j ≠ i := by
            rintro rfl
            unfold slotAt at hj
            rw [ho] at hj
            simp only [Option.bind_some, hdst] at hj
            exact h (Option.some.inj hj)
          rw [← hlst j hne]
          exact hl j hj
    · intro t ht
      cases hdst : o.dst with
      | none => exact hI.out t ht
      | some d =>
        rw [put_getD _ _ _ _ (hdlt d hdst), if_neg, hI.out t ht]
        rintro rfl
        exact ht i (by unfold slotAt; rw [ho]; exact hdst)
  unfold wpOp
  rw [ho]
  simp only
  rw [hw]
  by_cases hwant : flowWanted (slotAt ops) o (fun t => a.tmps.getD t undef) = true
  · rw [if_pos hwant]
    left
    refine Oper.wp_mono ?_ (hst.1 hwant)
    rintro a' w' ⟨v, rfl, hb, hd⟩
    exact next v w' hb hd
  · rw [if_neg hwant]
    exact next undef w (Below.refl _ _) (hst.2 (by simpa using hwant))

theorem flow_fin {F : Tmp → World → Value → Prop} {ops : Array Oper} {Q : Exit → Act → World → Prop} {A : Act} {W : World} (hok : flowOk ops = true)
    (fin : ∀ a w, Below W.heap.size W w → a.tmps.size = A.tmps.size → a.defers = A.defers → (∀ i d, slotAt ops i = some d → F d w (a.tmps.getD d undef)) → (∀ t, (∀ j, slotAt ops j ≠ some t) → a.tmps.getD t undef = A.tmps.getD t undef) → Q .normal a w) :
    ∀ l a w, Region.ready .any ops l = [] → FlowI F ops A W l a w → Q .normal a w := by
  unfold flowOk at hok
  rw [List.all_eq_true] at hok
  intro l a w hr hI
  have hall : ∀ j, j < ops.size → l.getD j true = true := by
    intro j
    induction j using Nat.strongRecOn with
    | ind j ih =>
      intro hj
      by_cases hl : l.getD j true = true
      · exact hl
      · exfalso
        have hokj := hok j (by simpa using hj)
        obtain ⟨o, ho⟩ : ∃ o, ops[j]? = some o := ⟨_, Array.getElem?_eq_getElem hj⟩
        rw [ho] at hokj
        simp only [Bool.and_eq_true, Array.all_eq_true', Bool.or_eq_true, Bool.not_eq_true', decide_eq_true_eq] at hokj
        have hmem : j ∈ Region.ready .any ops l := by
          simp only [Region.ready, List.mem_filter, List.mem_range, Bool.and_eq_true, ho, Option.map_some, Option.getD_some, Array.all_eq_true', Bool.or_eq_true, Bool.not_eq_true']
          refine ⟨hj, by simpa using hl, fun e he => ?_⟩
          rcases hokj.1.1 e he with h | h
          · exact .inl h
          · right
            have h1 := ih e.on h (by omega)
            have hlt : e.on < l.size := by rw [hI.lsize]; omega
            simp [Array.getD_eq_getD_getElem?, hlt] at h1 ⊢
            exact h1
        rw [hr] at hmem
        cases hmem
  refine fin a w hI.B hI.size hI.defers (fun i d hd => hI.facts d ?_ ?_) hI.out
  · have hlt : i < ops.size := by
      rcases Nat.lt_or_ge i ops.size with h | h
      · exact h
      · unfold slotAt at hd
        rw [Array.getElem?_eq_none h] at hd
        cases hd
    exact ⟨i, _, Array.getElem?_eq_getElem hlt, .inr (by unfold slotAt at hd; rw [Array.getElem?_eq_getElem hlt] at hd; exact hd)⟩
  · intro j hj
    have hlt : j < ops.size := by
      rcases Nat.lt_or_ge j ops.size with h | h
      · exact h
      · unfold slotAt at hj
        rw [Array.getElem?_eq_none h] at hj
        cases hj
    exact hall j hlt


/-- A region in its one order, by an invariant. -/
theorem region_inv_text {P : Program} {ops : Array Oper} {Q : Exit → Act → World → Prop} {id : Nat} {a : Act} {w : World} (hok : flowOk ops = true)
    (I : Array Bool → Act → World → Prop) (h0 : I (Array.replicate ops.size false) a w)
    (step : ∀ i l a w, i ∈ Region.ready .any ops l → I l a w → wpOp P ops Q i (I (l.setIfInBounds i true)) a w)
    (fin : ∀ l a w, Region.ready .any ops l = [] → I l a w → Q .normal a w) :
    (Code.region id ops false).wp P Q a w := by
  unfold flowOk at hok
  rw [List.all_eq_true] at hok
  refine wp_region ?_
  have key : ∀ (r m : Nat) (l : Array Bool) (a : Act) (w : World), m + r = ops.size → l.size = ops.size → (∀ j, j < ops.size → (l.getD j true = true ↔ j < m)) → I l a w → wpOps P ops Q ((List.range' m r)) a w := by
    intro r
    induction r with
    | zero =>
      intro m l a w hm hls hl hI
      simp only [List.range'_zero, wpOps]
      refine fin l a w ?_ hI
      refine List.eq_nil_iff_forall_not_mem.mpr fun i hi => ?_
      have h := ready_left hi
      have := (hl i h.1).2 (by omega)
      rw [h.2] at this
      cases this
    | succ r ih =>
      intro m l a w hm hls hl hI
      rw [List.range'_succ, wpOps_cons]
      have hlt : m < ops.size := by omega
      obtain ⟨o, ho⟩ : ∃ o, ops[m]? = some o := ⟨_, Array.getElem?_eq_getElem hlt⟩
      have hokm := hok m (by simpa using hlt)
      rw [ho] at hokm
      simp only [Bool.and_eq_true, Array.all_eq_true', Bool.or_eq_true, Bool.not_eq_true', decide_eq_true_eq] at hokm
      have hmem : m ∈ Region.ready .any ops l := by
        simp only [Region.ready, List.mem_filter, List.mem_range, Bool.and_eq_true, ho, Option.map_some, Option.getD_some, Array.all_eq_true', Bool.or_eq_true, Bool.not_eq_true']
        refine ⟨hlt, ?_, fun e he => ?_⟩
        · cases h : l.getD m true
          · rfl
          · have := (hl m hlt).1 h
            omega
        · rcases hokm.1.1 e he with h | h
          · exact .inl h
          · right
            have h1 := (hl e.on (by omega)).2 h
            have hlt' : e.on < l.size := by omega
            simp [Array.getD_eq_getD_getElem?, hlt'] at h1 ⊢
            exact h1
      refine wpOp_mono ?_ (step m l a w hmem hI)
      intro a' w' hI'
      refine ih (m + 1) _ a' w' (by omega) (by simpa using hls) (fun j hj => ?_) hI'
      by_cases hmj : m = j
      · subst hmj
        simp [Array.getD_eq_getD_getElem?, hls, hj]
      · have := hl j hj
        simp only [Array.getD_eq_getD_getElem?, Array.getElem?_setIfInBounds, hmj, if_false] at this ⊢
        rw [this]
        omega
  rw [List.range_eq_range']
  refine key ops.size 0 _ a w (by omega) (by simp) (fun j hj => ?_) h0
  simp [Array.getD_eq_getD_getElem?, hj]

/-- The same where the region has one order. -/
theorem region_flow_text {P : Program} (F : Tmp → World → Value → Prop) {ops : Array Oper} {Q : Exit → Act → World → Prop} {id : Nat} {A : Act} {W : World}
    (mono : ∀ t w w' v, Below w.heap.size w w' → F t w v → F t w' v)
    (n : Nat) (hn : A.tmps.size = n) (hok : flowOk ops = true) (hroom : flowRoom ops n = true)
    (L : List Tmp) (hL : flowOuts ops L = true) (h0 : ∀ t ∈ L, F t W (A.tmps.getD t undef))
    (steps : FlowSteps P F (slotAt ops) ops.toList)
    (fin : ∀ a w, Below W.heap.size W w → a.tmps.size = A.tmps.size → a.defers = A.defers → (∀ i d, slotAt ops i = some d → F d w (a.tmps.getD d undef)) → (∀ t, (∀ j, slotAt ops j ≠ some t) → a.tmps.getD t undef = A.tmps.getD t undef) → Q .normal a w) :
    (Code.region id ops false).wp P Q A W := by
  subst hn
  exact region_inv_text hok (FlowI F ops A W) (flow_start (Below.refl _ _) L hL h0 fun _ _ h => h) (flow_step mono hok hroom steps) (flow_fin hok fin)

end Go.Proofs.Ytdpiclmjdcjajaa
