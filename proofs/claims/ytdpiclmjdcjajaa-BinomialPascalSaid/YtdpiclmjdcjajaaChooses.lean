/-
  The walk of the law BinomialChooses: for every two integers of their types it returns true. No conditions.
-/
import Derived.Test.YtdpiclmjdcjajaaFlow7
import Derived.Test.YtdpiclmjdcjajaaFlow4
import Derived.Test.YtdpiclmjdcjajaaQ14
import Derived.Test.YtdpiclmjdcjajaaS1
/-
  A region that draws its order, with one store at its end and one operation that may run behind the store. Of any program.
-/
namespace Go.Proofs.Ytdpiclmjdcjajaa
open Go.RowKit

set_option maxHeartbeats 1000000 in
theorem flow_step1 {P : Program} {F : Tmp → World → Value → Prop} {ops : Array Oper} {Q : Exit → Act → World → Prop} {A : Act} {W : World}
    (mono : ∀ t w w' v, Below w.heap.size w w' → F t w v → F t w' v) (hok : flowOk ops = true) (hroom : flowRoom ops A.tmps.size = true) :
    ∀ i l a w, (∀ o, ops[i]? = some o → FlowStep P F (slotAt ops) o) → i ∈ Region.ready .any ops l → FlowI F ops A W l a w → wpOp P ops Q i (FlowI F ops A W (l.setIfInBounds i true)) a w := by
  unfold flowOk at hok
  rw [List.all_eq_true] at hok
  intro i l a w steps hi hI
  have hlt := (ready_left hi)
  obtain ⟨o, ho⟩ : ∃ o, ops[i]? = some o := ⟨_, Array.getElem?_eq_getElem hlt.1⟩
  have hoki := hok i (by simpa using hlt.1)
  rw [ho] at hoki
  simp only [Bool.and_eq_true, List.all_eq_true, Bool.or_eq_true, bne_iff_ne, ne_eq, List.mem_range, Array.any_eq_true', beq_iff_eq] at hoki
  obtain ⟨⟨_, huniq⟩, hlooks⟩ := hoki
  have hready : ∀ e ∈ o.after, Region.binds .any e = true → l.getD e.on false = true := by
    have hi' := hi
    simp only [Region.ready, List.mem_filter, List.mem_range, Bool.and_eq_true, ho, Option.map_some, Option.getD_some, Array.all_eq_true', Bool.or_eq_true, Bool.not_eq_true'] at hi'
    intro e he hb
    rcases hi'.2.2 e he with h | h
    · rw [hb] at h; cases h
    · exact h
  have huniqj : ∀ d, o.dst = some d → ∀ j, slotAt ops j = some d → j = i := by
    intro d hd j hj
    rw [hd] at huniq
    simp only [List.all_eq_true, List.mem_range, Bool.or_eq_true, beq_iff_eq, bne_iff_ne, ne_eq] at huniq
    have hlt : j < ops.size := by
      rcases Nat.lt_or_ge j ops.size with h | h
      · exact h
      · unfold slotAt at hj
        rw [Array.getElem?_eq_none h] at hj
        cases hj
    rcases huniq j hlt with h | h
    · exact h
    · exact absurd hj h
  have hfacts : ∀ t, (.tmp t ∈ o.op.operands.toList ∨ ∃ g, o.guard = some g ∧ slotAt ops g.1 = some t) → F t w (a.tmps.getD t undef) := by
    intro t ht
    have hmem := looksAt_mem ht
    refine hI.facts t ⟨i, o, ho, .inl hmem⟩ ?_
    intro j hj
    rcases hlooks t hmem with h | ⟨e, he, hb, hs⟩
    · have hlt : j < ops.size := by
        rcases Nat.lt_or_ge j ops.size with h | h
        · exact h
        · unfold slotAt at hj
          rw [Array.getElem?_eq_none h] at hj
          cases hj
      exact absurd hj (h j hlt)
    · have hl := hready e he hb
      have hje : j = e.on := by
        have hlt : e.on < ops.size := by
          rcases Nat.lt_or_ge e.on ops.size with h | h
          · exact h
          · unfold slotAt at hs
            rw [Array.getElem?_eq_none h] at hs
            cases hs
        have hoke := hok e.on (by simpa using hlt)
        obtain ⟨o', ho'⟩ : ∃ o', ops[e.on]? = some o' := ⟨_, Array.getElem?_eq_getElem hlt⟩
        rw [ho'] at hoke
        have hd' : o'.dst = some t := by unfold slotAt at hs; rw [ho'] at hs; exact hs
        simp only [Bool.and_eq_true, hd', List.all_eq_true, List.mem_range, Bool.or_eq_true, beq_iff_eq, bne_iff_ne, ne_eq] at hoke
        have hltj : j < ops.size := by
          rcases Nat.lt_or_ge j ops.size with h | h
          · exact h
          · unfold slotAt at hj
            rw [Array.getElem?_eq_none h] at hj
            cases hj
        rcases hoke.1.2 j hltj with h | h
        · exact h
        · exact absurd hj h
      rw [hje]
      have hlt : e.on < l.size := by
        rcases Nat.lt_or_ge e.on l.size with h | h
        · exact h
        · simp [Array.getD_eq_getD_getElem?, Array.getElem?_eq_none h] at hl
      simp only [Array.getD_eq_getD_getElem?, Array.getElem?_eq_getElem hlt, Option.getD_some] at hl ⊢
      exact hl
  have hst := steps o ho a w Q hfacts
  have hw := flow_wanted (ops := ops) (a := a) (o := o) (by rw [hI.size]; exact hroom)
  have next : ∀ v w', Below w.heap.size w w' → (∀ d, o.dst = some d → F d w' v) → FlowI F ops A W (l.setIfInBounds i true) (a.put o.dst v) w' := by
    intro v w' hb hd
    have hlst : ∀ j, j ≠ i → (l.setIfInBounds i true).getD j true = l.getD j true := by
      intro j hj
      have : i ≠ j := fun e => hj e.symm
      simp [Array.getD_eq_getD_getElem?, this]
    have hdlt : ∀ d, o.dst = some d → d < a.tmps.size := by
      intro d hd'
      rw [hI.size]
      unfold flowRoom at hroom
      rw [List.all_eq_true] at hroom
      have := hroom i (by simpa using hlt.1)
      have hs : slotAt ops i = some d := by unfold slotAt; rw [ho]; exact hd'
      rw [hs] at this
      simpa using this
    refine ⟨below_next hI.B hb, by rw [put_size]; exact hI.size, ?_, by simpa using hI.lsize, ?_, ?_⟩
    · cases o.dst <;> exact hI.defers
    · intro t ht hl
      cases hdst : o.dst with
      | none =>
        show F t w' (a.tmps.getD t undef)
        refine mono t w w' _ hb (hI.facts t ht fun j hj => ?_)
        have hne : j ≠ i := by
          rintro rfl
          unfold slotAt at hj
          rw [ho] at hj
          simp only [Option.bind_some, hdst] at hj
          cases hj
        rw [← hlst j hne]
        exact hl j hj
      | some d =>
        rw [put_getD _ _ _ _ (hdlt d hdst)]
        by_cases h : d = t
        · rw [if_pos h]
          subst h
          exact hd d hdst
        · rw [if_neg h]
          refine mono t w w' _ hb (hI.facts t ht fun j hj => ?_)
          have hne : j ≠ i := by
            rintro rfl
            unfold slotAt at hj
            rw [ho] at hj
            simp only [Option.bind_some, hdst] at hj
            exact h (Option.some.inj hj)
          rw [← hlst j hne]
          exact hl j hj
    · intro t ht
      cases hdst : o.dst with
      | none => exact hI.out t ht
      | some d =>
        rw [put_getD _ _ _ _ (hdlt d hdst), if_neg, hI.out t ht]
        rintro rfl
        exact ht i (by unfold slotAt; rw [ho]; exact hdst)
  unfold wpOp
  rw [ho]
  simp only
  rw [hw]
  by_cases hwant : flowWanted (slotAt ops) o (fun t => a.tmps.getD t undef) = true
  · rw [if_pos hwant]
    left
    refine Oper.wp_mono ?_ (hst.1 hwant)
    rintro a' w' ⟨v, rfl, hb, hd⟩
    exact next v w' hb hd
  · rw [if_neg hwant]
    exact next undef w (Below.refl _ _) (hst.2 (by simpa using hwant))


/-- Steps of all operations but the s-th. -/
def FlowStepsBut (P : Program) (F : Tmp → World → Value → Prop) (G : Nat → Option Tmp) : Nat → List Oper → Prop
  | _, [] => True
  | 0, _ :: r => FlowSteps P F G r
  | s + 1, o :: r => FlowStep P F G o ∧ FlowStepsBut P F G s r

theorem flowStepsBut_get {P : Program} {F : Tmp → World → Value → Prop} {G : Nat → Option Tmp} : ∀ {s : Nat} {l : List Oper} (_ : FlowStepsBut P F G s l) {i : Nat} {o : Oper}, i ≠ s → l[i]? = some o → FlowStep P F G o
  | _, [], _, _, _, _, h => by simp at h
  | 0, _ :: r, hs, 0, _, hi, _ => absurd rfl hi
  | 0, _ :: r, hs, i + 1, o, _, h => flowSteps_get (l := r) hs (i := i) (o := o) (by simpa using h)
  | s + 1, x :: r, hs, 0, o, _, h => by
    obtain rfl : x = o := by simpa using h
    exact hs.1
  | s + 1, x :: r, hs, i + 1, o, hi, h => flowStepsBut_get (s := s) (l := r) hs.2 (i := i) (o := o) (by omega) (by simpa using h)

/-- The s-th comes behind all but the j-th. -/
def lateOk (ops : Array Oper) (s j : Nat) : Bool :=
  decide (s < ops.size) && decide (j < ops.size) && (s != j) && match ops[s]? with
    | none => false
    | some o => (o.dst == none) && (List.range ops.size).all fun i => i == s || i == j || o.after.any fun e => Region.binds .any e && e.on == i

theorem all_done {ops : Array Oper} (hok : flowOk ops = true) {l : Array Bool} (hls : l.size = ops.size) (hr : Region.ready .any ops l = []) : ∀ j, j < ops.size → l.getD j true = true := by
  unfold flowOk at hok
  rw [List.all_eq_true] at hok
  intro j
  induction j using Nat.strongRecOn with
  | ind j ih =>
    intro hj
    by_cases hl : l.getD j true = true
    · exact hl
    · exfalso
      have hokj := hok j (by simpa using hj)
      obtain ⟨o, ho⟩ : ∃ o, ops[j]? = some o := ⟨_, Array.getElem?_eq_getElem hj⟩
      rw [ho] at hokj
      simp only [Bool.and_eq_true, Array.all_eq_true', Bool.or_eq_true, Bool.not_eq_true', decide_eq_true_eq] at hokj
      have hmem : j ∈ Region.ready .any ops l := by
        simp only [Region.ready, List.mem_filter, List.mem_range, Bool.and_eq_true, ho, Option.map_some, Option.getD_some, Array.all_eq_true', Bool.or_eq_true, Bool.not_eq_true']
        refine ⟨hj, by simpa using hl, fun e he => ?_⟩
        rcases hokj.1.1 e he with h | h
        · exact .inl h
        · right
          have h1 := ih e.on h (by omega)
          have hlt : e.on < l.size := by omega
          simp [Array.getD_eq_getD_getElem?, hlt] at h1 ⊢
          exact h1
      rw [hr] at hmem
      cases hmem

set_option maxHeartbeats 1000000 in
theorem region_flow_late {P : Program} (F : Tmp → World → Value → Prop) {ops : Array Oper} {Q : Exit → Act → World → Prop} {id : Nat} {A : Act} {W : World} (hm : P.follows .mixedOrders = true)
    (mono : ∀ t w w' v, Below w.heap.size w w' → F t w v → F t w' v)
    (n s j : Nat) (hn : A.tmps.size = n) (hok : flowOk ops = true) (hroom : flowRoom ops n = true) (hlate : lateOk ops s j = true)
    (L : List Tmp) (hL : flowOuts ops L = true) (h0 : ∀ t ∈ L, F t W (A.tmps.getD t undef))
    (hdraw : ∀ t v, F t W v → F t { W with drawn := W.drawn + 1 } v)
    (steps : FlowStepsBut P F (slotAt ops) s ops.toList)
    (fin : ∀ a w, Below W.heap.size W w → a.tmps.size = A.tmps.size → a.defers = A.defers → (∀ i d, i ≠ j → slotAt ops i = some d → F d w (a.tmps.getD d undef)) → (∀ t, (∀ j, slotAt ops j ≠ some t) → a.tmps.getD t undef = A.tmps.getD t undef) →
      wpOp P ops Q s (fun a' w' => Q .normal a' w' ∧ wpOp P ops Q j (Q .normal) a' w') a w) :
    (Code.region id ops true).wp P Q A W := by
  subst hn
  unfold lateOk at hlate
  simp only [Bool.and_eq_true, decide_eq_true_eq, bne_iff_ne, ne_eq] at hlate
  obtain ⟨⟨⟨hs, hj⟩, hsj⟩, hlate⟩ := hlate
  obtain ⟨os, hos⟩ : ∃ o, ops[s]? = some o := ⟨_, Array.getElem?_eq_getElem hs⟩
  rw [hos] at hlate
  simp only [Bool.and_eq_true, beq_iff_eq, List.all_eq_true, List.mem_range, Bool.or_eq_true, Array.any_eq_true'] at hlate
  obtain ⟨hsd, hlate⟩ := hlate
  have huniq : ∀ i i' d, slotAt ops i = some d → slotAt ops i' = some d → i = i' := by
    intro i i' d hi hi'
    have hlt := slot_lt hi
    have hlt' := slot_lt hi'
    have hk := hok
    unfold flowOk at hk
    rw [List.all_eq_true] at hk
    have := hk i (by simpa using hlt)
    obtain ⟨o, ho⟩ : ∃ o, ops[i]? = some o := ⟨_, Array.getElem?_eq_getElem hlt⟩
    rw [ho] at this
    have hd : o.dst = some d := by unfold slotAt at hi; rw [ho] at hi; exact hi
    simp only [Bool.and_eq_true, hd, List.all_eq_true, List.mem_range, Bool.or_eq_true, beq_iff_eq, bne_iff_ne, ne_eq] at this
    rcases this.1.2 i' hlt' with h | h
    · exact h.symm
    · exact absurd hi' h
  let I : Array Bool → Act → World → Prop := fun l a w =>
    l.size = ops.size ∧ ((FlowI F ops A W l a w ∧ l.getD s true = false) ∨
    ((∀ i, i < ops.size → i ≠ j → l.getD i true = true) ∧ ((l.getD j true = true ∧ Q .normal a w) ∨ (l.getD j true = false ∧ wpOp P ops Q j (Q .normal) a w))))
  refine region_inv hm I ?_ ?_ ?_
  · refine ⟨by simp, .inl ⟨flow_start ((Below.refl _ _).drew) L hL h0 hdraw, ?_⟩⟩
    simp [Array.getD_eq_getD_getElem?, hs]
  · intro i l a w hi ⟨hls, hI⟩
    have hlt := ready_left hi
    have hoth : ∀ i', i' ≠ i → (l.setIfInBounds i true).getD i' true = l.getD i' true := by
      intro i' h
      have : i ≠ i' := fun e => h e.symm
      simp [Array.getD_eq_getD_getElem?, this]
    have hown : (l.setIfInBounds i true).getD i true = true := by
      have : i < l.size := by rw [hls]; exact hlt.1
      simp [Array.getD_eq_getD_getElem?, this]
    rcases hI with ⟨hI, hl⟩ | ⟨hd, hI⟩
    · by_cases his : i = s
      · subst his
        have hdone : ∀ i', i' < ops.size → i' ≠ i → i' ≠ j → l.getD i' true = true := by
          intro i' hi' h1 h2
          rcases hlate i' hi' with (h | h) | ⟨e, he, hb, rfl⟩
          · exact absurd h h1
          · exact absurd h h2
          · have hi2 := hi
            simp only [Region.ready, List.mem_filter, List.mem_range, Bool.and_eq_true, hos, Option.map_some, Option.getD_some, Array.all_eq_true', Bool.or_eq_true, Bool.not_eq_true'] at hi2
            rcases hi2.2.2 e he with h | h
            · rw [hb] at h; cases h
            · rw [getD_le (by omega) true false]
              exact h
        refine wpOp_mono ?_ (fin a w hI.B hI.size hI.defers (fun i' d hne hd => ?_) hI.out)
        · rintro a' w' ⟨h1, h2⟩
          refine ⟨by simpa using hls, .inr ⟨fun i' hi' hne => ?_, ?_⟩⟩
          · by_cases he : i' = i
            · subst he; exact hown
            · rw [hoth i' he]; exact hdone i' hi' he hne
          · have hji : j ≠ i := fun e => hsj e.symm
            rw [hoth j hji]
            cases hlj : l.getD j true
            · exact .inr ⟨rfl, h2⟩
            · exact .inl ⟨rfl, h1⟩
        · have hlt' := slot_lt hd
          refine hI.facts d ⟨i', _, Array.getElem?_eq_getElem hlt', .inr (by unfold slotAt at hd; rw [Array.getElem?_eq_getElem hlt'] at hd; exact hd)⟩ fun j' hj' => ?_
          rw [huniq j' i' d hj' hd]
          refine hdone i' hlt' ?_ hne
          rintro rfl
          unfold slotAt at hd
          rw [hos] at hd
          simp [hsd] at hd
      · refine wpOp_mono ?_ (flow_step1 mono hok hroom i l a w (fun o ho => flowStepsBut_get steps his (by simpa using ho)) hi hI)
        intro a' w' h
        exact ⟨by simpa using hls, .inl ⟨h, by rw [hoth s (fun e => his e.symm)]; exact hl⟩⟩
    · have hij : i = j := by
        by_cases h : i = j
        · exact h
        · have := hd i hlt.1 h
          rw [hlt.2] at this
          cases this
      subst hij
      rcases hI with ⟨h, _⟩ | ⟨_, h⟩
      · rw [hlt.2] at h
        cases h
      · refine wpOp_mono ?_ h
        intro a' w' h'
        exact ⟨by simpa using hls, .inr ⟨fun i' hi' hne => by rw [hoth i' hne]; exact hd i' hi' hne, .inl ⟨hown, h'⟩⟩⟩
  · intro l a w hr ⟨hls, hI⟩
    have hall := all_done hok hls hr
    rcases hI with ⟨_, h⟩ | ⟨_, ⟨_, h⟩ | ⟨h, _⟩⟩
    · rw [hall s hs] at h; cases h
    · exact h
    · rw [hall j hj] at h; cases h

end Go.Proofs.Ytdpiclmjdcjajaa

/-
  The reference's walk of ratio: n (n - 1) .. (n - k + 1) / k!. Conditions: n has at most three limbs, k is at most 64.
-/
namespace Go.Proofs.Ytdpiclmjdcjajaa
open Go.RowKit Num

def rz (n : Rat) : Nat → Rat
  | 0 => 1
  | i + 1 => rz n i * (n - quo i 1) / quo ((i : Int) + 1) 1

theorem sz_le {q : Rat} {a b : Nat} (h : Sz q a) (hab : a ≤ b) : Sz q b := ⟨Nat.lt_of_lt_of_le h.1 (pw_le hab), Nat.lt_of_lt_of_le h.2 (pw_le hab)⟩
theorem sz_nat {n : Nat} (h : n ≤ 1000) : Sz (quo n 1) 1 := by
  have e : quo (n : Int) 1 = rat false n 1 := quo_pos n 1
  rw [e]
  exact sz_rat (show n < 1000000000 by omega) (by decide) (by omega)
theorem sz_rz {n : Rat} (hn : Sz n 3) : ∀ i, i ≤ 64 → Sz (rz n i) (8 * i + 1)
  | 0, _ => by
    show Sz (1 : Rat) 1
    exact sz_le (sz_nat (n := 1) (by decide)) (Nat.le_refl _)
  | i + 1, hi => by
    have h1 := sz_rz hn i (by omega)
    have h2 := sz_sub hn (sz_nat (n := i) (by omega))
    have h3 := sz_div (sz_mul h1 h2) (sz_nat (n := i + 1) (by omega))
    exact sz_le h3 (by omega)

def Ke.rc (k : Nat) (p : Rat) : Ke := ⟨fun w v => RatC w v p ∧ Sz p k, fun hb h => ⟨h.1.below hb, h.2⟩⟩
def Ke.tup (p : Rat) : Ke := ⟨fun w v => ∃ x ok, v = .tuple #[x, .bool ok] ∧ RatC w x p, fun hb ⟨x, ok, e, h⟩ => ⟨x, ok, e, h.below hb⟩⟩

theorem c2_81 (a : Act) (d : Option Tmp) (ty : TypeId) (pos : String) (es : Array Edge) (t u : Tmp) (w : World) :
    Sem.run Try.prog (execOp a.eval ⟨d, .call ⟨.value (.func 81), #[.tmp t, .tmp u], #[24, 24]⟩, ty, pos, es, none⟩) w = .ok (.enter 81 #[a.tmps.getD t undef, a.tmps.getD u undef]) w := by go_simp
theorem c2_45 (a : Act) (d : Option Tmp) (ty : TypeId) (pos : String) (es : Array Edge) (t u : Tmp) (w : World) :
    Sem.run Try.prog (execOp a.eval ⟨d, .call ⟨.value (.func 45), #[.tmp t, .tmp u], #[24, 24]⟩, ty, pos, es, none⟩) w = .ok (.enter 45 #[a.tmps.getD t undef, a.tmps.getD u undef]) w := by go_simp
theorem c2_68 (a : Act) (d : Option Tmp) (ty : TypeId) (pos : String) (es : Array Edge) (t u : Tmp) (w : World) :
    Sem.run Try.prog (execOp a.eval ⟨d, .call ⟨.value (.func 68), #[.tmp t, .tmp u], #[24, 24]⟩, ty, pos, es, none⟩) w = .ok (.enter 68 #[a.tmps.getD t undef, a.tmps.getD u undef]) w := by go_simp
theorem c1_48 (a : Act) (d : Option Tmp) (ty : TypeId) (pos : String) (es : Array Edge) (t : Tmp) (w : World) :
    Sem.run Try.prog (execOp a.eval ⟨d, .call ⟨.value (.func 48), #[.tmp t], #[2]⟩, ty, pos, es, none⟩) w = .ok (.enter 48 #[a.tmps.getD t undef]) w := by go_simp

section
variable {κ : Tmp → Ke} {G : Nat → Option Tmp} {d s t u c : Tmp} {ty : TypeId} {pos : String} {es : Array Edge} {k k' : Nat} {p q : Rat}
theorem e_c2 {f : FuncId} (hrun : ∀ (a : Act) (w : World), Sem.run Try.prog (execOp a.eval ⟨some d, .call ⟨.value (.func f), #[.tmp t, .tmp u], #[24, 24]⟩, ty, pos, es, none⟩) w = .ok (.enter f #[a.tmps.getD t undef, a.tmps.getD u undef]) w)
    (hc : ∀ w x y, (κ t).holds w x → (κ u).holds w y → Calls Try.prog f #[x, y] w (fun e w' => ∃ r, e = .returned r ∧ (κ d).holds w' r ∧ Below w.heap.size w w')) :
    FlowStep Try.prog (Fe κ) G ⟨some d, .call ⟨.value (.func f), #[.tmp t, .tmp u], #[24, 24]⟩, ty, pos, es, none⟩ := by
  refine e_step rfl fun a w Q hf => ?_
  unfold Oper.wp
  rw [hrun, Oper.upon_enter]
  refine (hc w _ _ (hf t (by simp [Op.operands, Call.operands])) (hf u (by simp [Op.operands, Call.operands]))).mono ?_
  rintro e w' ⟨r, rfl, hr, hb⟩
  exact ⟨r, rfl, hb, fun d' hd' => by cases hd'; exact hr⟩
theorem e_fromI {n : Int} (ht : κ t = .con (.int .i64 n)) (hd : κ d = .rc k (quo n 1)) (h1 : -9223372036854775808 ≤ n) (h2 : n ≤ 9223372036854775807) (hs : Sz (quo n 1) k) :
    FlowStep Try.prog (Fe κ) G ⟨some d, .call ⟨.value (.func 48), #[.tmp t], #[2]⟩, ty, pos, es, none⟩ := by
  refine e_step rfl fun a w Q hf => ?_
  have h := hf t (by simp [Op.operands, Call.operands])
  rw [ht] at h
  have h : a.tmps.getD t undef = .int .i64 n := h
  unfold Oper.wp
  rw [c1_48, h, Oper.upon_enter]
  refine (refFromInt_any n w h1 h2).mono ?_
  rintro e w' ⟨v, rfl, hv, hb⟩
  exact ⟨v, rfl, hb, fun d' hd' => by cases hd'; rw [hd]; exact ⟨hv, hs⟩⟩
theorem e_sub2 {m : Nat} (ht : κ t = .ra k p) (hu : κ u = .rc k' q) (hd : κ d = .rc m (p - q)) (hs : Sz (p - q) m) (hk : k + k' ≤ 7000) :
    FlowStep Try.prog (Fe κ) G ⟨some d, .call ⟨.value (.func 81), #[.tmp t, .tmp u], #[24, 24]⟩, ty, pos, es, none⟩ :=
  e_c2 (fun a w => c2_81 _ _ _ _ _ _ _ _) fun w x y hx hy => by
    rw [ht] at hx
    rw [hu] at hy
    have hx : RatA w x k p := hx
    obtain ⟨hy1, hy2⟩ := (show RatC w y q ∧ Sz q k' from hy)
    refine (refSub_a (k := k + k') (hx.le (by omega)) ((hy1.a hy2).le (by omega)) hk).mono ?_
    rintro e w' ⟨v, rfl, hv, hb⟩
    exact ⟨v, rfl, by rw [hd]; exact ⟨hv, hs⟩, hb⟩
theorem e_mul2 (ht : κ t = .ra k p) (hu : κ u = .rc k' q) (hd : κ d = .ratC (p * q)) (hk : k + k' ≤ 20000) :
    FlowStep Try.prog (Fe κ) G ⟨some d, .call ⟨.value (.func 45), #[.tmp t, .tmp u], #[24, 24]⟩, ty, pos, es, none⟩ :=
  e_c2 (fun a w => c2_45 _ _ _ _ _ _ _ _) fun w x y hx hy => by
    rw [ht] at hx
    rw [hu] at hy
    have hx : RatA w x k p := hx
    obtain ⟨hy1, hy2⟩ := (show RatC w y q ∧ Sz q k' from hy)
    refine (refMul_a (k := k + k') (hx.le (by omega)) ((hy1.a hy2).le (by omega)) hk).mono ?_
    rintro e w' ⟨v, rfl, hv, hb⟩
    exact ⟨v, rfl, by rw [hd]; exact hv, hb⟩
theorem e_div2 (ht : κ t = .ra k p) (hu : κ u = .rc k' q) (hd : κ d = .tup (p / q)) (hk : k + k' ≤ 20000) :
    FlowStep Try.prog (Fe κ) G ⟨some d, .call ⟨.value (.func 68), #[.tmp t, .tmp u], #[24, 24]⟩, ty, pos, es, none⟩ :=
  e_c2 (fun a w => c2_68 _ _ _ _ _ _ _ _) fun w x y hx hy => by
    rw [ht] at hx
    rw [hu] at hy
    have hx : RatA w x k p := hx
    obtain ⟨hy1, hy2⟩ := (show RatC w y q ∧ Sz q k' from hy)
    refine (refDiv_a (k := k + k') (hx.le (by omega)) ((hy1.a hy2).le (by omega)) hk).mono ?_
    rintro e w' ⟨v, rfl, hv, hb⟩
    exact ⟨_, rfl, by rw [hd]; exact ⟨v, _, rfl, hv⟩, hb⟩
theorem run_ext0 (a : Act) (d : Option Tmp) (ty : TypeId) (pos : String) (es : Array Edge) (t : Tmp) (w : World) (x : Value) (ok : Bool) (h : a.tmps.getD t undef = .tuple #[x, .bool ok]) :
    Sem.run Try.prog (execOp a.eval ⟨d, .extract (.tmp t) 0, ty, pos, es, none⟩) w = .ok (.value x) w := by go_simp
theorem run_ext1 (a : Act) (d : Option Tmp) (ty : TypeId) (pos : String) (es : Array Edge) (t : Tmp) (w : World) (x : Value) (ok : Bool) (h : a.tmps.getD t undef = .tuple #[x, .bool ok]) :
    Sem.run Try.prog (execOp a.eval ⟨d, .extract (.tmp t) 1, ty, pos, es, none⟩) w = .ok (.value (.bool ok)) w := by go_simp
theorem e_ext0 (ht : κ t = .tup p) (hd : κ d = .ratC p) : FlowStep Try.prog (Fe κ) G ⟨some d, .extract (.tmp t) 0, ty, pos, es, none⟩ := by
  refine e_step rfl fun a w Q hf => ?_
  have h := hf t (by simp [Op.operands])
  rw [ht] at h
  obtain ⟨x, ok, e, hr⟩ := (show ∃ x ok, a.tmps.getD t undef = .tuple #[x, .bool ok] ∧ RatC w x p from h)
  unfold Oper.wp
  rw [run_ext0 _ _ _ _ _ _ _ x ok e, Oper.upon_value]
  exact ⟨_, rfl, Below.refl _ _, fun d' hd' => by cases hd'; rw [hd]; exact hr⟩
theorem e_ext1 (ht : κ t = .tup p) (hd : κ d = .any) : FlowStep Try.prog (Fe κ) G ⟨some d, .extract (.tmp t) 1, ty, pos, es, none⟩ := by
  refine e_step rfl fun a w Q hf => ?_
  have h := hf t (by simp [Op.operands])
  rw [ht] at h
  obtain ⟨x, ok, e, hr⟩ := (show ∃ x ok, a.tmps.getD t undef = .tuple #[x, .bool ok] ∧ RatC w x p from h)
  unfold Oper.wp
  rw [run_ext1 _ _ _ _ _ _ _ x ok e, Oper.upon_value]
  exact ⟨_, rfl, Below.refl _ _, fun d' hd' => by cases hd'; rw [hd]; trivial⟩
theorem e_add1 {n : Int} (ht : κ t = .con (.int .i64 n)) (hd : κ d = .con (.int .i64 (n + 1))) (h1 : 0 ≤ n) (h2 : n ≤ 1000) :
    FlowStep Try.prog (Fe κ) G ⟨some d, .binOp .add 3 (.tmp t) (.const (.int .i64 1)) 3, ty, pos, es, none⟩ := by
  refine e_step rfl fun a w Q hf => ?_
  have h := hf t (by simp [Op.operands])
  rw [ht] at h
  have h : a.tmps.getD t undef = .int .i64 n := h
  unfold Oper.wp
  have hw : IntKind.i64.wrap (n + 1) = n + 1 := IntWalk.i64_in _ (by omega)
  have hr : Sem.run Try.prog (execOp a.eval ⟨some d, .binOp .add 3 (.tmp t) (.const (.int .i64 1)) 3, ty, pos, es, none⟩) w = .ok (.value (.int .i64 (n + 1))) w := by go_simp
  rw [hr, Oper.upon_value]
  exact ⟨_, rfl, Below.refl _ _, fun d' hd' => by cases hd'; rw [hd]; rfl⟩
end
end Go.Proofs.Ytdpiclmjdcjajaa

/-
  The reference's walk of ratio: its loop.
-/
namespace Go.Proofs.Ytdpiclmjdcjajaa
open Go.RowKit Num

structure RtB (w : World) (n : Rat) (x0 x1 x2 : Value) (wr : World) : Prop where
  bn : BoxV wr w.heap.size w.heap.size 24 [x0, x1, x2]
  cn : RatC wr (.agg #[x0, x1, x2]) n
  bz : BoxV wr w.heap.size (w.heap.size + 1) 24 [.bool false, .slice none 0 0, .slice none 0 0]
  bel : Below w.heap.size w wr

theorem RtB.below {w wr w' : World} {n : Rat} {x0 x1 x2 : Value} (h : RtB w n x0 x1 x2 wr) (hb : Below wr.heap.size wr w') : RtB w n x0 x1 x2 w' :=
  ⟨h.bn.below hb, h.cn.below hb, h.bz.below hb, below_next' h.bel hb⟩
theorem RtB.set {w w2 : World} {n : Rat} {x0 x1 x2 x y z v0 v1 v2 : Value} {g : Nat} (h : RtB w n x0 x1 x2 w2) (hB : BoxV w2 w.heap.size g 24 [x, y, z]) (hx : NoLimb [x, y, z]) (hg : w.heap.size + 1 < g) :
    RtB w n x0 x1 x2 (((w2.setCell ⟨g, 0, none⟩ v0).setCell ⟨g, 1, none⟩ v1).setCell ⟨g, 2, none⟩ v2) := by
  have hgr := grown_set3 w2 g v0 v1 v2
  exact ⟨h.bn.kept hgr (by simp; omega), h.cn.other hB hx hgr, h.bz.kept hgr (by simp; omega), below_set3 h.bel hB.block.1 _ _ _⟩

def RtO (w : World) (g : Nat) (s : Rat) (wr : World) : Prop :=
  ∃ an ln cn ad ld cd, BoxV wr w.heap.size g 24 [.bool (decide (s.num < 0)), .slice an ln cn, .slice ad ld cd] ∧ RatC wr (.agg #[.bool (decide (s.num < 0)), .slice an ln cn, .slice ad ld cd]) s

theorem RtO.next {w w2 : World} {g : Nat} {s : Rat} {an ad : Option Addr} {ln cn ld cd : Nat} {x y z : Value} (hB : BoxV w2 w.heap.size g 24 [x, y, z]) (hx : NoLimb [x, y, z]) (h : RatC w2 (.agg #[.bool (decide (s.num < 0)), .slice an ln cn, .slice ad ld cd]) s) :
    RtO w g s (((w2.setCell ⟨g, 0, none⟩ (.bool (decide (s.num < 0)))).setCell ⟨g, 1, none⟩ (.slice an ln cn)).setCell ⟨g, 2, none⟩ (.slice ad ld cd)) :=
  ⟨an, ln, cn, ad, ld, cd, hB.store3 _ _ _, h.other hB hx (grown_set3 w2 g _ _ _)⟩

theorem late_ext {ops : Array Oper} {Q : Exit → Act → World → Prop} {j d t : Nat} {ty : TypeId} {pos : String} {es : Array Edge} {a : Act} {w : World} {p : Rat} (ho : ops[j]? = some ⟨some d, .extract (.tmp t) 1, ty, pos, es, none⟩) (hd : d < a.tmps.size)
    (ht : (Ke.tup p).holds w (a.tmps.getD t undef)) (h : ∀ a', a'.tmps.size = a.tmps.size → a'.defers = a.defers → (∀ s, s ≠ d → a'.tmps.getD s undef = a.tmps.getD s undef) → Q .normal a' w) :
    Q .normal a w ∧ wpOp Try.prog ops Q j (Q .normal) a w := by
  refine ⟨h a rfl rfl fun _ _ => rfl, ?_⟩
  obtain ⟨x, ok, e, _⟩ := (show ∃ x ok, a.tmps.getD t undef = .tuple #[x, .bool ok] ∧ RatC w x p from ht)
  unfold wpOp
  rw [ho]
  simp only [Region.wanted, if_true]
  left
  unfold Oper.wp
  rw [run_ext1 _ _ _ _ _ _ _ x ok e, Oper.upon_value]
  refine h _ (put_size _ _ _) rfl fun s hs => ?_
  rw [put_getD _ _ _ _ hd, if_neg fun e => hs e.symm]

theorem tup_set {w w2 : World} {p : Rat} {v x y z : Value} {g : Nat} (h : (Ke.tup p).holds w2 v) (hB : BoxV w2 w.heap.size g 24 [x, y, z]) (hx : NoLimb [x, y, z]) (v0 v1 v2 : Value) :
    (Ke.tup p).holds (((w2.setCell ⟨g, 0, none⟩ v0).setCell ⟨g, 1, none⟩ v1).setCell ⟨g, 2, none⟩ v2) v := by
  obtain ⟨a, ok, e, hr⟩ := (show ∃ a ok, v = .tuple #[a, .bool ok] ∧ RatC w2 a p from h)
  exact ⟨a, ok, e, hr.other hB hx (grown_set3 w2 g _ _ _)⟩

def rtA (n s : Rat) (i : Nat) : Tmp → Ke := fun t => ([.any, .any, .box 3 n, .any, .any, .box 513 s, .con (.int .i64 i), .any, .any, .any, .any, .any, .any, .ra 513 s, .ra 3 n, .con (.int .i64 i), .rc 1 (quo i 1), .rc 5 (n - quo i 1), .ratC (s * (n - quo i 1))] : List Ke).getD t .any
def rtD (s : Rat) (i : Nat) : Tmp → Ke := fun t => ([.any, .any, .any, .any, .any, .box 519 s, .con (.int .i64 i), .any, .any, .any, .any, .any, .any, .any, .any, .any, .any, .any, .any, .tup (s / quo ((i : Int) + 1) 1), .ra 519 s, .con (.int .i64 i), .con (.int .i64 ((i : Int) + 1)), .rc 1 (quo ((i : Int) + 1) 1), .tup (s / quo ((i : Int) + 1) 1), .ratC (s / quo ((i : Int) + 1) 1)] : List Ke).getD t .any

set_option maxRecDepth 100000 in
set_option maxHeartbeats 8000000 in
theorem ratio_any (n : Rat) (k : Nat) (v0 : Value) (w : World) (hk : k ≤ 64) (h0 : RatC w v0 n) (hs : Sz n 3) :
    Calls Try.prog 104 #[v0, .int .i64 k] w (RatP (rz n k) w) := by
  obtain ⟨z1, z2, z3, z4, z5, z6, rfl, _⟩ := id h0
  have hz : ∀ o, (w.alloc o).heap.size = w.heap.size + 1 := fun o => Array.size_push _
  have hb0 := below_alloc1 w (.cells #[.bool (decide (n.num < 0)), .slice z1 z2 z3, .slice z4 z5 z6] 24)
  have hBn := BoxV.new w w.heap.size 24 (Nat.le_refl _) [.bool (decide (n.num < 0)), .slice z1 z2 z3, .slice z4 z5 z6]
  have hb1 := below_alloc1 (w.alloc (.cells #[.bool (decide (n.num < 0)), .slice z1 z2 z3, .slice z4 z5 z6] 24)) (.cells #[.bool false, .slice none 0 0, .slice none 0 0] 24)
  have hBz := BoxV.new (w.alloc (.cells #[.bool (decide (n.num < 0)), .slice z1 z2 z3, .slice z4 z5 z6] 24)) w.heap.size 24 (by rw [hz]; exact Nat.le_succ _) [.bool false, .slice none 0 0, .slice none 0 0]
  rw [show (w.alloc (.cells #[.bool (decide (n.num < 0)), .slice z1 z2 z3, .slice z4 z5 z6] 24)).heap.size = w.heap.size + 1 from hz _] at hBz
  have HA := Lib.hid (show RtB w n _ _ _ _ from ⟨hBn.below hb1, (h0.below hb0).below hb1, hBz, below_next' hb0 hb1⟩)
  have HS := Lib.hid (And.intro hs (sz_rz hs))
  clear hb0 hBn hb1 hBz h0 hs hz
  go_enter Try.func104, Try.ntmps104
  go_wp2_with fail
  refine (refFromInt_any 1 _ (by omega) (by omega)).mono ?_
  rintro e w1 ⟨v, rfl, hv, hb1⟩
  rw [quo_one] at hv
  have H1 := Lib.hid (And.intro (HA.out.below hb1) hv)
  have hlt := H1.out.1.bz.block.2
  obtain ⟨y1, y2, y3, y4, y5, y6, rfl, _⟩ := hv
  clear hb1
  go_wp2
  have hb2 := below_alloc1 w1 (.cells #[.bool (decide ((1 : Rat).num < 0)), .slice y1 y2 y3, .slice y4 y5 y6] 24)
  have hB2 := BoxV.new w1 w.heap.size 24 (by omega) [.bool (decide ((1 : Rat).num < 0)), .slice y1 y2 y3, .slice y4 y5 y6]
  have HI := Lib.hid (And.intro (H1.out.1.below hb2) (show RtO w w1.heap.size (rz n 0) _ from ⟨y1, y2, y3, y4, y5, y6, hB2, H1.out.2.below hb2⟩))
  clear hb2 hB2
  go_loopw [6] (fun i wr => ∃ q : Nat, i = .int .i64 q ∧ q ≤ k ∧ RtB w n (.bool (decide (n.num < 0))) (.slice z1 z2 z3) (.slice z4 z5 z6) wr ∧ RtO w w1.heap.size (rz n q) wr) (fun i _ => k - (intOf i).toNat)
  case atStart => exact ⟨0, rfl, Nat.zero_le _, HI.out⟩
  case round =>
    obtain ⟨q, rfl, hq, hT, an, ln, cn, ad, ld, cd, hBs, hC⟩ := hrel
    have t1 := hBs.block.2
    by_cases hlt2 : q < k
    · have HL := Lib.hid hlt2
      have hsz := HS.out.2 q (by omega)
      have hsz2 : Sz (rz n q) 513 := sz_le hsz (by omega)
      have hbx := boxC_of hBs hC hsz2
      have hbn := boxC_of hT.bn hT.cn HS.out.1
      have HR := Lib.hid (And.intro hbn (And.intro hbx (And.intro hBs hT)))
      have hsq : Sz (quo (q : Int) 1) 1 := sz_nat (by omega)
      have hsq1 : Sz (quo ((q : Int) + 1) 1) 1 := sz_nat (n := q + 1) (by omega)
      have hsd := sz_sub HS.out.1 hsq
      have hsm := sz_mul hsz2 hsd
      have HZ := Lib.hid (And.intro hsq (And.intro hsq1 (And.intro hsd hsm)))
      clear hsz hsz2 hbx hbn hBs hT hC hsq hsq1 hsd hsm
      go_wp2_with fail
      refine region_flow_tail (Fe (rtA n (rz n q) q)) (by rfl) (Fe.mono _) 28 6 [] (by rfl) (by kernel_rfl) (by kernel_rfl) (by kernel_rfl) (by kernel_rfl) (fun t ht => by cases ht) [2, 5, 6] (by kernel_rfl) ?g0 (Fe.draw _) ?gs ?gf
      case g0 =>
        intro t ht
        simp only [List.mem_cons, List.not_mem_nil, or_false] at ht
        rcases ht with rfl | rfl | rfl
        · exact HR.out.1
        · exact HR.out.2.1
        · rfl
      case gs =>
        exact ⟨flowN_of (e_loadC rfl rfl) (by decide), flowN_of (e_loadC rfl rfl) (by decide), flowN_of (e_move rfl) (by decide), flowN_of (e_fromI rfl rfl (by omega) (by omega) HZ.out.1) (by decide), flowN_of (e_sub2 rfl rfl rfl HZ.out.2.2.1 (by omega)) (by decide), flowN_of (e_mul2 rfl rfl rfl (by omega)) (by decide), trivial⟩
      intro a3 w3 hb3 hsz3 hdf3 hfacts hout _
      have f18 : RatC w3 (a3.tmps.getD 18 undef) (rz n q * (n - quo q 1)) := hfacts 5 18 (by decide) rfl
      have e0 : a3.tmps.getD 0 undef = .agg #[.bool (decide (n.num < 0)), .slice z1 z2 z3, .slice z4 z5 z6] := hout 0 (free_of (by kernel_rfl))
      have e1 : a3.tmps.getD 1 undef = .int .i64 k := hout 1 (free_of (by kernel_rfl))
      have e2 : a3.tmps.getD 2 undef = .pointer (some ⟨w.heap.size, 0, none⟩) := hout 2 (free_of (by kernel_rfl))
      have e3 : a3.tmps.getD 3 undef = undef := hout 3 (free_of (by kernel_rfl))
      have e4 : a3.tmps.getD 4 undef = .pointer (some ⟨w.heap.size + 1, 0, none⟩) := hout 4 (free_of (by kernel_rfl))
      have e5 : a3.tmps.getD 5 undef = .pointer (some ⟨w1.heap.size, 0, none⟩) := hout 5 (free_of (by kernel_rfl))
      have e6 : a3.tmps.getD 6 undef = .int .i64 q := hout 6 (free_of (by kernel_rfl))
      have e7 : a3.tmps.getD 7 undef = .agg #[.bool false, .slice y1 y2 y3, .slice y4 y5 y6] := hout 7 (free_of (by kernel_rfl))
      have e27 : a3.tmps.getD 27 undef = undef := hout 27 (free_of (by kernel_rfl))
      have hszn : a3.tmps.size = 28 := hsz3
      have hdfn : a3.defers = [] := hdf3
      have hB3 := HR.out.2.2.1.below hb3
      change runFrom _ _ _ 1 6 a3 w3
      simp only [runFrom]
      refine e_store (t := 5) (u := 18) rfl e5 hB3 f18 fun an' ln' cn' ad' ld' cd' hR => ?_
      have HN := Lib.hid (And.intro ((HR.out.2.2.2.below hb3).set (v0 := .bool (decide ((rz n q * (n - quo q 1)).num < 0))) (v1 := .slice an' ln' cn') (v2 := .slice ad' ld' cd') hB3 (noLimb_rat _ _ _ _ _ _ _) hlt) (RtO.next hB3 (noLimb_rat _ _ _ _ _ _ _) hR))
      generalize (((w3.setCell ⟨w1.heap.size, 0, none⟩ (.bool (decide ((rz n q * (n - quo q 1)).num < 0)))).setCell ⟨w1.heap.size, 1, none⟩ (.slice an' ln' cn')).setCell ⟨w1.heap.size, 2, none⟩ (.slice ad' ld' cd')) = w4 at HN ⊢
      obtain ⟨uu, hu⟩ : ∃ u : Nat → Value, ∀ t, a3.tmps.getD t undef = u t := ⟨_, fun _ => rfl⟩
      have ha := act_eq a3 28 hszn hdfn
      simp only [hu] at ha e0 e1 e2 e3 e4 e5 e6 e7 e27
      have ha' : a3 = ⟨#[uu 0, uu 1, uu 2, uu 3, uu 4, uu 5, uu 6, uu 7, uu 8, uu 9, uu 10, uu 11, uu 12, uu 13, uu 14, uu 15, uu 16, uu 17, uu 18, uu 19, uu 20, uu 21, uu 22, uu 23, uu 24, uu 25, uu 26, uu 27], []⟩ := ha
      rw [e0, e1, e2, e3, e4, e5, e6, e7, e27] at ha'
      clear ha hu e0 e1 e2 e3 e4 e5 e6 e7 e27 hfacts hout hszn hdfn hsz3 hdf3 f18 hB3 hR hb3 t1
      subst ha'
      obtain ⟨hT, an, ln, cn, ad, ld, cd, hBs, hC⟩ := id HN.out
      have hbx := boxC_of hBs hC HZ.out.2.2.2
      have HX := Lib.hid (And.intro hbx (And.intro hBs hT))
      clear hbx hBs hT hC
      go_wp2_with fail
      refine region_flow_late (Fe (rtD (rz n q * (n - quo q 1)) q)) (by rfl) (Fe.mono _) 28 8 7 (by rfl) (by kernel_rfl) (by kernel_rfl) (by kernel_rfl) [5, 6] (by kernel_rfl) ?k0 (Fe.draw _) ?ks ?kf
      case k0 =>
        intro t ht
        simp only [List.mem_cons, List.not_mem_nil, or_false] at ht
        rcases ht with rfl | rfl
        · exact HX.out.1
        · rfl
      case ks =>
        exact ⟨e_loadC rfl rfl, e_move rfl, e_add1 rfl rfl (by omega) (by omega), e_fromI rfl rfl (by omega) (by omega) HZ.out.2.1, e_div2 rfl rfl rfl (by omega), e_move rfl, e_ext0 rfl rfl, e_ext1 (p := rz n q * (n - quo q 1) / quo ((q : Int) + 1) 1) rfl rfl, trivial⟩
      intro a5 w5 hb5 hsz5 hdf5 hfacts hout
      have f25 : RatC w5 (a5.tmps.getD 25 undef) (rz n (q + 1)) := hfacts 6 25 (by decide) rfl
      have f19 : (Ke.tup (rz n (q + 1))).holds w5 (a5.tmps.getD 19 undef) := hfacts 5 19 (by decide) rfl
      have g0 : a5.tmps.getD 0 undef = .agg #[.bool (decide (n.num < 0)), .slice z1 z2 z3, .slice z4 z5 z6] := hout 0 (free_of (by kernel_rfl))
      have g1 : a5.tmps.getD 1 undef = .int .i64 k := hout 1 (free_of (by kernel_rfl))
      have g2 : a5.tmps.getD 2 undef = .pointer (some ⟨w.heap.size, 0, none⟩) := hout 2 (free_of (by kernel_rfl))
      have g3 : a5.tmps.getD 3 undef = undef := hout 3 (free_of (by kernel_rfl))
      have g4 : a5.tmps.getD 4 undef = .pointer (some ⟨w.heap.size + 1, 0, none⟩) := hout 4 (free_of (by kernel_rfl))
      have g5 : a5.tmps.getD 5 undef = .pointer (some ⟨w1.heap.size, 0, none⟩) := hout 5 (free_of (by kernel_rfl))
      have g6 : a5.tmps.getD 6 undef = .int .i64 q := hout 6 (free_of (by kernel_rfl))
      have g7 : a5.tmps.getD 7 undef = .agg #[.bool false, .slice y1 y2 y3, .slice y4 y5 y6] := hout 7 (free_of (by kernel_rfl))
      have g27 : a5.tmps.getD 27 undef = undef := hout 27 (free_of (by kernel_rfl))
      have hB5 := HX.out.2.1.below hb5
      refine e_store (t := 5) (u := 25) rfl g5 hB5 f25 fun an' ln' cn' ad' ld' cd' hR => ?_
      have HM := Lib.hid (And.intro ((HX.out.2.2.below hb5).set (v0 := .bool (decide ((rz n (q + 1)).num < 0))) (v1 := .slice an' ln' cn') (v2 := .slice ad' ld' cd') hB5 (noLimb_rat _ _ _ _ _ _ _) hlt) (RtO.next hB5 (noLimb_rat _ _ _ _ _ _ _) hR))
      have HT := Lib.hid (tup_set f19 hB5 (noLimb_rat _ _ _ _ _ _ _) (.bool (decide ((rz n (q + 1)).num < 0))) (.slice an' ln' cn') (.slice ad' ld' cd'))
      generalize (((w5.setCell ⟨w1.heap.size, 0, none⟩ (.bool (decide ((rz n (q + 1)).num < 0)))).setCell ⟨w1.heap.size, 1, none⟩ (.slice an' ln' cn')).setCell ⟨w1.heap.size, 2, none⟩ (.slice ad' ld' cd')) = w6 at HM HT ⊢
      refine late_ext (t := 19) (d := 26) (p := rz n (q + 1)) rfl (by rw [hsz5]; exact (by decide : 26 < 28)) HT.out fun a6 hsz6 hdf6 hk6 => ?_
      have hszn : a6.tmps.size = 28 := hsz6.trans hsz5
      have hdfn : a6.defers = [] := hdf6.trans hdf5
      have f0 : a6.tmps.getD 0 undef = .agg #[.bool (decide (n.num < 0)), .slice z1 z2 z3, .slice z4 z5 z6] := (hk6 0 (by decide)).trans g0
      have f1 : a6.tmps.getD 1 undef = .int .i64 k := (hk6 1 (by decide)).trans g1
      have f2 : a6.tmps.getD 2 undef = .pointer (some ⟨w.heap.size, 0, none⟩) := (hk6 2 (by decide)).trans g2
      have f3 : a6.tmps.getD 3 undef = undef := (hk6 3 (by decide)).trans g3
      have f4 : a6.tmps.getD 4 undef = .pointer (some ⟨w.heap.size + 1, 0, none⟩) := (hk6 4 (by decide)).trans g4
      have f5 : a6.tmps.getD 5 undef = .pointer (some ⟨w1.heap.size, 0, none⟩) := (hk6 5 (by decide)).trans g5
      have f6 : a6.tmps.getD 6 undef = .int .i64 q := (hk6 6 (by decide)).trans g6
      have f7 : a6.tmps.getD 7 undef = .agg #[.bool false, .slice y1 y2 y3, .slice y4 y5 y6] := (hk6 7 (by decide)).trans g7
      have f27 : a6.tmps.getD 27 undef = undef := (hk6 27 (by decide)).trans g27
      obtain ⟨vv, hv2⟩ : ∃ u : Nat → Value, ∀ t, a6.tmps.getD t undef = u t := ⟨_, fun _ => rfl⟩
      have ha := act_eq a6 28 hszn hdfn
      simp only [hv2] at ha f0 f1 f2 f3 f4 f5 f6 f7 f27
      have ha' : a6 = ⟨#[vv 0, vv 1, vv 2, vv 3, vv 4, vv 5, vv 6, vv 7, vv 8, vv 9, vv 10, vv 11, vv 12, vv 13, vv 14, vv 15, vv 16, vv 17, vv 18, vv 19, vv 20, vv 21, vv 22, vv 23, vv 24, vv 25, vv 26, vv 27], []⟩ := ha
      rw [f0, f1, f2, f3, f4, f5, f6, f7, f27] at ha'
      clear ha hv2 f0 f1 f2 f3 f4 f5 f6 f7 f27 g0 g1 g2 g3 g4 g5 g6 g7 g27 hfacts hout hszn hdfn hsz6 hdf6 hk6 hsz5 hdf5 f25 f19 HT hB5 hR hb5
      subst ha'
      go_wp2
      go_round
      case rel => exact ⟨q + 1, by go_num, by have := HL.out; omega, HM.out⟩
      case measure => have := HL.out; simp [intOf]; omega
    · obtain ⟨⟨k0, k1, k2⟩, i0, i1, i2⟩ := hBs.three
      obtain ⟨⟨x0, x1, x2⟩, j0, j1, j2⟩ := hT.bz.three
      have HF := Lib.hid (And.intro hT hC)
      have hqn : q = k := by omega
      subst hqn
      clear hT hC hBs hlt2
      go_wp2
      obtain ⟨⟨x0, x1, x2⟩, _⟩ := (HF.out.1.bz.store3 (.bool (decide ((rz n q).num < 0))) (.slice an ln cn) (.slice ad ld cd)).three
      exact bodyPost_ret (v := .agg #[.bool (decide ((rz n q).num < 0)), .slice an ln cn, .slice ad ld cd]) (by simp [results, Try.results104, go_sem, x0, x1, x2]) rfl ⟨_, rfl, HF.out.2.other HF.out.1.bz noLimb_nil3 (grown_set3 _ _ _ _ _), below_set3 HF.out.1.bel HF.out.1.bz.block.1 _ _ _⟩

end Go.Proofs.Ytdpiclmjdcjajaa

/-
  The reference's Over and Choose.
-/
namespace Go.Proofs.Ytdpiclmjdcjajaa
open Go.RowKit Num

theorem rtB_new {w : World} {n : Rat} {z1 z4 : Option Addr} {z2 z3 z5 z6 : Nat} (h0 : RatC w (.agg #[.bool (decide (n.num < 0)), .slice z1 z2 z3, .slice z4 z5 z6]) n) :
    RtB w n (.bool (decide (n.num < 0))) (.slice z1 z2 z3) (.slice z4 z5 z6) ((w.alloc (.cells #[.bool (decide (n.num < 0)), .slice z1 z2 z3, .slice z4 z5 z6] 24)).alloc (.cells #[.bool false, .slice none 0 0, .slice none 0 0] 24)) := by
  have hz : ∀ o, (w.alloc o).heap.size = w.heap.size + 1 := fun o => Array.size_push _
  have hb0 := below_alloc1 w (.cells #[.bool (decide (n.num < 0)), .slice z1 z2 z3, .slice z4 z5 z6] 24)
  have hBn := BoxV.new w w.heap.size 24 (Nat.le_refl _) [.bool (decide (n.num < 0)), .slice z1 z2 z3, .slice z4 z5 z6]
  have hb1 := below_alloc1 (w.alloc (.cells #[.bool (decide (n.num < 0)), .slice z1 z2 z3, .slice z4 z5 z6] 24)) (.cells #[.bool false, .slice none 0 0, .slice none 0 0] 24)
  have hBz := BoxV.new (w.alloc (.cells #[.bool (decide (n.num < 0)), .slice z1 z2 z3, .slice z4 z5 z6] 24)) w.heap.size 24 (by rw [hz]; exact Nat.le_succ _) [.bool false, .slice none 0 0, .slice none 0 0]
  rw [show (w.alloc (.cells #[.bool (decide (n.num < 0)), .slice z1 z2 z3, .slice z4 z5 z6] 24)).heap.size = w.heap.size + 1 from hz _] at hBz
  exact ⟨hBn.below hb1, (h0.below hb0).below hb1, hBz, below_next' hb0 hb1⟩

theorem sz_zero3 : Sz (0 : Rat) 3 := sz_le (a := 1) (by have := sz_nat (n := 0) (by decide); exact quo_zero ▸ this) (by decide)

set_option maxRecDepth 100000 in
set_option maxHeartbeats 4000000 in
theorem over_any (n : Rat) (k : Nat) (v0 : Value) (w : World) (hk : k ≤ 64) (h0 : RatC w v0 n) (hs : Sz n 3) :
    Calls Try.prog 59 #[v0, .int .i64 k] w (RatP (rz (if n < 0 then 0 else n) k) w) := by
  obtain ⟨z1, z2, z3, z4, z5, z6, rfl, _⟩ := id h0
  have HA := Lib.hid (rtB_new h0)
  have HS := Lib.hid hs
  obtain ⟨r, hr⟩ : ∃ r, (if n < 0 then 0 else n) = r := ⟨_, rfl⟩
  rw [hr]
  have HC := Lib.hid hr
  clear h0 hs hr
  go_enter Try.func59, Try.ntmps59
  go_wp2_with fail
  refine (refSign_a (k := 3) (HA.out.cn.a HS.out) (by omega)).mono ?_
  rintro e w1 ⟨rfl, hb1⟩
  have H1 := Lib.hid (HA.out.below hb1)
  obtain ⟨⟨k0, k1, k2⟩, i0, i1, i2⟩ := H1.out.bn.three
  clear hb1
  by_cases hneg : n < 0
  · have hsg : sgn n = -1 := by
      rw [sgn_cmp0]
      have h1 := cmp_lt.2 hneg
      have h2 := cmp_range n 0
      omega
    obtain rfl : 0 = r := by have := HC.out; rw [if_pos hneg] at this; exact this
    rw [hsg]
    clear hsg hneg HC
    go_wp2_with fail
    refine (refFromInt_any 0 _ (by omega) (by omega)).mono ?_
    rintro e w2 ⟨v, rfl, hv, hb2⟩
    rw [quo_zero] at hv
    have hT := H1.out.below hb2
    clear k0 k1 k2 i0 i1 i2 hb2
    obtain ⟨⟨k0, k1, k2⟩, i0, i1, i2⟩ := hT.bn.three
    have H2 := Lib.hid (And.intro hT hv)
    obtain ⟨y1, y2, y3, y4, y5, y6, rfl, _⟩ := hv
    have hgr := grown_set3 w2 w.heap.size (.bool (decide ((0 : Rat).num < 0))) (.slice y1 y2 y3) (.slice y4 y5 y6)
    have hz := hT.bz.kept hgr (by simp)
    have hc := H2.out.2.other hT.bn (noLimb_rat _ _ _ _ _ _ _) hgr
    have hbl := below_set3 hT.bel hT.bn.block.1 (.bool (decide ((0 : Rat).num < 0))) (.slice y1 y2 y3) (.slice y4 y5 y6)
    have H3 := Lib.hid (And.intro hz (And.intro hc hbl))
    clear hT hgr hz hc hbl
    go_wp2_with fail
    refine (ratio_any 0 k _ _ hk H3.out.2.1 sz_zero3).mono ?_
    rintro e w4 ⟨v, rfl, hv, hb4⟩
    have hB5 := H3.out.1.below hb4
    have hbb := below_next' H3.out.2.2 hb4
    have HV := Lib.hid hv
    obtain ⟨zn, zl, zc, en, el, ec, rfl, _⟩ := hv
    clear k0 k1 k2 i0 i1 i2
    obtain ⟨⟨x0, x1, x2⟩, j0, j1, j2⟩ := hB5.three
    have HF := Lib.hid (And.intro hbb hB5)
    clear hB5 hbb hb4
    go_wp2
    obtain ⟨⟨x0, x1, x2⟩, _⟩ := (HF.out.2.store3 (.bool (decide ((rz 0 k).num < 0))) (.slice zn zl zc) (.slice en el ec)).three
    exact bodyPost_ret (v := .agg #[.bool (decide ((rz 0 k).num < 0)), .slice zn zl zc, .slice en el ec]) (by simp [results, Try.results59, go_sem, x0, x1, x2]) rfl ⟨_, rfl, HV.out.other HF.out.2 noLimb_nil3 (grown_set3 _ _ _ _ _), below_set3 HF.out.1 HF.out.2.block.1 _ _ _⟩
  · obtain ⟨z, hz⟩ : ∃ z, sgn n = z := ⟨_, rfl⟩
    have hz0 : 0 ≤ z := by
      rw [← hz, sgn_cmp0]
      have h1 : ¬ cmpQ n 0 < 0 := fun h => hneg (cmp_lt.1 h)
      omega
    obtain rfl : n = r := by have := HC.out; rw [if_neg hneg] at this; exact this
    rw [hz]
    clear hneg hz HC
    go_wp2_with fail
    refine (ratio_any n k _ _ hk H1.out.cn HS.out).mono ?_
    rintro e w4 ⟨v, rfl, hv, hb4⟩
    have hB5 := H1.out.bz.below hb4
    have hbb := below_next' H1.out.bel hb4
    have HV := Lib.hid hv
    obtain ⟨zn, zl, zc, en, el, ec, rfl, _⟩ := hv
    clear k0 k1 k2 i0 i1 i2
    obtain ⟨⟨x0, x1, x2⟩, j0, j1, j2⟩ := hB5.three
    have HF := Lib.hid (And.intro hbb hB5)
    clear hB5 hbb hb4
    go_wp2
    obtain ⟨⟨x0, x1, x2⟩, _⟩ := (HF.out.2.store3 (.bool (decide ((rz n k).num < 0))) (.slice zn zl zc) (.slice en el ec)).three
    exact bodyPost_ret (v := .agg #[.bool (decide ((rz n k).num < 0)), .slice zn zl zc, .slice en el ec]) (by simp [results, Try.results59, go_sem, x0, x1, x2]) rfl ⟨_, rfl, HV.out.other HF.out.2 noLimb_nil3 (grown_set3 _ _ _ _ _), below_set3 HF.out.1 HF.out.2.block.1 _ _ _⟩

end Go.Proofs.Ytdpiclmjdcjajaa

/-
  The reference's Choose.
-/
namespace Go.Proofs.Ytdpiclmjdcjajaa
open Go.RowKit Num

/-- A number and whether it is there. -/
def OkP (q : Rat) (b : Bool) (w : World) (e : Ending) (w' : World) : Prop := ∃ v, e = .returned (.tuple #[v, .bool b]) ∧ RatC w' v q ∧ Below w.heap.size w w'

theorem sz_int {n : Int} (h1 : -9223372036854775808 ≤ n) (h2 : n ≤ 9223372036854775807) : Sz (quo n 1) 3 := by
  by_cases h : n < 0
  · rw [← refquo_neg h]
    exact sz_rat (k := 3) (Nat.lt_of_lt_of_le (by omega : n.natAbs < 1000000000000000000000000000) (by decide)) (by decide) (by omega)
  · rw [← refquo_pos h]
    exact sz_rat (k := 3) (Nat.lt_of_lt_of_le (by omega : n.natAbs < 1000000000000000000000000000) (by decide)) (by decide) (by omega)

theorem quo_lt {n : Int} : quo n 1 < 0 ↔ n < 0 := by
  rw [quo_mk (by omega), show mkRat n (Int.natAbs 1) = (n : Rat) from Rat.mkRat_one n]
  exact Rat.intCast_neg_iff

/-- What both functions return. -/
def chQ (n : Int) (k : Nat) : Rat := rz (quo (if n < 0 then 0 else n) 1) k

set_option maxRecDepth 100000 in
set_option maxHeartbeats 4000000 in
theorem refChoose_in (n : Int) (k : Nat) (w : World) (hk : k ≤ 64) (h1 : -9223372036854775808 ≤ n) (h2 : n ≤ 9223372036854775807) :
    Calls Try.prog 22 #[.int .i64 n, .int .i64 k] w (OkP (chQ n k) true w) := by
  have hb0 := below_alloc1 w (.cells #[.bool false, .slice none 0 0, .slice none 0 0] 24)
  have hB := BoxV.new w w.heap.size 24 (Nat.le_refl _) [.bool false, .slice none 0 0, .slice none 0 0]
  have hc : rz (if quo n 1 < 0 then 0 else quo n 1) k = chQ n k := by
    unfold chQ
    by_cases h : n < 0
    · rw [if_pos (quo_lt.2 h), if_pos h, quo_zero]
    · rw [if_neg (fun h' => h (quo_lt.1 h')), if_neg h]
  obtain ⟨r, hr⟩ : ∃ r, chQ n k = r := ⟨_, rfl⟩
  rw [hr] at hc ⊢
  have HA := Lib.hid (And.intro hb0 (And.intro hB (And.intro hc (sz_int h1 h2))))
  clear hb0 hB hc hr
  go_enter Try.func22, Try.ntmps22
  go_wp2_with fail
  refine (refFromInt_any n _ h1 h2).mono ?_
  rintro e w1 ⟨v, rfl, hv, hb1⟩
  have H1 := Lib.hid (And.intro hv (And.intro (below_next' HA.out.1 hb1) (HA.out.2.1.below hb1)))
  clear hv hb1
  go_wp2_with fail
  have ho := over_any (quo n 1) k v w1 hk H1.out.1 HA.out.2.2.2
  rw [HA.out.2.2.1] at ho
  refine ho.mono ?_
  rintro e w2 ⟨v, rfl, hv, hb2⟩
  have hB2 := H1.out.2.2.below hb2
  have hbb := below_next' H1.out.2.1 hb2
  have HV := Lib.hid hv
  obtain ⟨zn, zl, zc, en, el, ec, rfl, _⟩ := hv
  obtain ⟨⟨x0, x1, x2⟩, j0, j1, j2⟩ := hB2.three
  have HF := Lib.hid (And.intro hbb hB2)
  clear hB2 hbb hb2 ho
  go_wp2
  obtain ⟨e1, e2⟩ := ratC_end HF.out.1 HF.out.2 HV.out
  obtain ⟨⟨x0, x1, x2⟩, _⟩ := (HF.out.2.store3 (.bool (decide (r.num < 0))) (.slice zn zl zc) (.slice en el ec)).three
  exact bodyPost_ret (v := .tuple #[.agg #[.bool (decide (r.num < 0)), .slice zn zl zc, .slice en el ec], .bool true]) (by simp [results, Try.results22, go_sem, x0, x1, x2]) rfl ⟨_, rfl, e1, e2⟩

set_option maxRecDepth 100000 in
set_option maxHeartbeats 4000000 in
theorem refChoose_out (n k : Int) (w : World) (hk : k < 0 ∨ 64 < k) : Calls Try.prog 22 #[.int .i64 n, .int .i64 k] w (OkP 0 false w) := by
  have hb0 := below_alloc1 w (.cells #[.bool false, .slice none 0 0, .slice none 0 0] 24)
  have hB := BoxV.new w w.heap.size 24 (Nat.le_refl _) [.bool false, .slice none 0 0, .slice none 0 0]
  obtain ⟨r, hr⟩ : ∃ r : Rat, (0 : Rat) = r := ⟨_, rfl⟩
  rw [hr]
  have HA := Lib.hid (And.intro hb0 (And.intro hB hr))
  clear hb0 hB hr
  rcases hk with hk | hk
  all_goals
    go_enter Try.func22, Try.ntmps22
    go_wp2_with fail
    refine (refFromInt_any 0 _ (by omega) (by omega)).mono ?_
    rintro e w2 ⟨v, rfl, hv, hb2⟩
    rw [quo_zero, HA.out.2.2] at hv
    have hB2 := HA.out.2.1.below hb2
    have hbb := below_next' HA.out.1 hb2
    have HV := Lib.hid hv
    obtain ⟨zn, zl, zc, en, el, ec, rfl, _⟩ := hv
    obtain ⟨⟨x0, x1, x2⟩, j0, j1, j2⟩ := hB2.three
    have HF := Lib.hid (And.intro hbb hB2)
    clear hB2 hbb hb2
    go_wp2
    obtain ⟨e1, e2⟩ := ratC_end HF.out.1 HF.out.2 HV.out
    obtain ⟨⟨x0, x1, x2⟩, _⟩ := (HF.out.2.store3 (.bool (decide (r.num < 0))) (.slice zn zl zc) (.slice en el ec)).three
    exact bodyPost_ret (v := .tuple #[.agg #[.bool (decide (r.num < 0)), .slice zn zl zc, .slice en el ec], .bool false]) (by simp [results, Try.results22, go_sem, x0, x1, x2]) rfl ⟨_, rfl, e1, e2⟩

end Go.Proofs.Ytdpiclmjdcjajaa

/-
  The steps of the program's chooses.
-/
namespace Go.Proofs.Ytdpiclmjdcjajaa
open Go.RowKit Num

theorem run_make32 (k : Nat) (w : World) (h1 : k ≤ 65) :
    (Instr.makeSlice 32 (Value.int IntKind.i64 (k : Int)) (Value.int IntKind.i64 (k : Int))).run Try.prog w = .ok (.slice (some ⟨w.heap.size, 0, none⟩) k k) (w.alloc (.cells (madeCells #[.bool false, .slice none 0 0, .slice none 0 0] (k * 3)) 24)) := by
  have hinfo : (Try.prog.info? 24).map (fun i => (i.zero, i.size, i.bytes)) = some (some (.agg #[.bool false, .slice none 0 0, .slice none 0 0]), 3, 56) := by kernel_rfl
  obtain ⟨i, hi, hzz⟩ := Option.map_eq_some_iff.1 hinfo
  simp only [Prod.mk.injEq] at hzz
  obtain ⟨hz, hs, hb⟩ := hzz
  have hr := run_make (P := Try.prog) w 32 24 i _ (by kernel_rfl) hi hz .i64 .i64 k k (by omega) (Int.le_refl _) (by rw [hb]; omega) (by omega)
  simp only [Int.toNat_natCast, hs] at hr
  exact hr

theorem noLimb_made (n : Nat) : NoLimb (madeCells #[.bool false, .slice none 0 0, .slice none 0 0] n).toList := by
  intro x hx m
  unfold madeCells at hx
  simp only [Array.toList_map, List.mem_map] at hx
  obtain ⟨i, _, rfl⟩ := hx
  have h : i % 3 = 0 ∨ i % 3 = 1 ∨ i % 3 = 2 := by omega
  have e : (#[Value.bool false, .slice none 0 0, .slice none 0 0] : Array Value).size = 3 := rfl
  rw [e]
  rcases h with h | h | h <;> rw [h] <;> simp

/-- A list of numbers that the call itself made: the first q are known. -/
def LstI (B g k : Nat) (f : Nat → Rat) (q : Nat) (wr : World) : Prop :=
  ∃ xs : List Value, BoxV wr B g 24 xs ∧ xs.length = k * 3 ∧ NoLimb xs ∧ ∀ j, j < q → ∃ x y z, xs[j * 3]? = some x ∧ xs[j * 3 + 1]? = some y ∧ xs[j * 3 + 2]? = some z ∧ RatC wr (.agg #[x, y, z]) (f j)

theorem LstI.below {B g k q : Nat} {f : Nat → Rat} {wr w' : World} (h : LstI B g k f q wr) (hb : Below wr.heap.size wr w') : LstI B g k f q w' := by
  obtain ⟨xs, h1, h2, h3, h4⟩ := h
  refine ⟨xs, h1.below hb, h2, h3, fun j hj => ?_⟩
  obtain ⟨x, y, z, a, b, c, hr⟩ := h4 j hj
  exact ⟨x, y, z, a, b, c, hr.below hb⟩

theorem LstI.new (w : World) (B k : Nat) (f : Nat → Rat) (hB : B ≤ w.heap.size) : LstI B w.heap.size k f 0 (w.alloc (.cells (madeCells #[.bool false, .slice none 0 0, .slice none 0 0] (k * 3)) 24)) := by
  refine ⟨(madeCells #[.bool false, .slice none 0 0, .slice none 0 0] (k * 3)).toList, ?_, by rw [Array.length_toList, size_madeCells], noLimb_made _, fun j hj => by omega⟩
  exact BoxV.new w B 24 hB _

/-- A store to another block. -/
theorem LstI.other {B g k q : Nat} {f : Nat → Rat} {w2 : World} {g2 : Nat} {x y z v0 v1 v2 : Value} (h : LstI B g k f q w2) (hB : BoxV w2 B g2 24 [x, y, z]) (hx : NoLimb [x, y, z]) (hg : g ≠ g2) :
    LstI B g k f q (((w2.setCell ⟨g2, 0, none⟩ v0).setCell ⟨g2, 1, none⟩ v1).setCell ⟨g2, 2, none⟩ v2) := by
  obtain ⟨xs, h1, h2, h3, h4⟩ := h
  have hgr := grown_set3 w2 g2 v0 v1 v2
  refine ⟨xs, h1.kept hgr (by simpa using hg), h2, h3, fun j hj => ?_⟩
  obtain ⟨a, b, c, e1, e2, e3, hr⟩ := h4 j hj
  exact ⟨a, b, c, e1, e2, e3, hr.other hB hx hgr⟩

theorem boxV_set {w : World} {B g : Nat} {xs : List Value} (h : BoxV w B g 24 xs) (j : Nat) (v : Value) : BoxV (w.setCell ⟨g, j, none⟩ v) B g 24 (xs.set j v) := by
  have := (World.ownsRow.stored h j v).1
  unfold BoxV
  rw [List.length_set]
  exact this

/-- The next element is stored. -/
theorem LstI.store {B g k q : Nat} {f : Nat → Rat} {w2 : World} {b : Bool} {a a' : Option Addr} {n c n' c' : Nat} (h : LstI B g k f q w2) (hq : q < k) (hr : RatC w2 (.agg #[.bool b, .slice a n c, .slice a' n' c']) (f q)) :
    LstI B g k f (q + 1) (((w2.setCell ⟨g, q * 3, none⟩ (.bool b)).setCell ⟨g, q * 3 + 1, none⟩ (.slice a n c)).setCell ⟨g, q * 3 + 2, none⟩ (.slice a' n' c')) := by
  obtain ⟨xs, h1, h2, h3, h4⟩ := h
  have hgr : w2.grownBy (((w2.setCell ⟨g, q * 3, none⟩ (.bool b)).setCell ⟨g, q * 3 + 1, none⟩ (.slice a n c)).setCell ⟨g, q * 3 + 2, none⟩ (.slice a' n' c')) (some g) :=
    grown_setCell (grown_setCell (grown_setCell (World.grownBy.refl _ _) _) _) _
  refine ⟨((xs.set (q * 3) (.bool b)).set (q * 3 + 1) (.slice a n c)).set (q * 3 + 2) (.slice a' n' c'), boxV_set (boxV_set (boxV_set h1 _ _) _ _) _ _, by simpa using h2, ?_, fun j hj => ?_⟩
  · intro x hx m
    rcases List.mem_or_eq_of_mem_set hx with hx | rfl
    · rcases List.mem_or_eq_of_mem_set hx with hx | rfl
      · rcases List.mem_or_eq_of_mem_set hx with hx | rfl
        · exact h3 x hx m
        · simp
      · simp
    · simp
  · by_cases hjq : j = q
    · subst hjq
      refine ⟨_, _, _, ?_, ?_, ?_, hr.other h1 h3 hgr⟩
      · simp [List.getElem?_set]; omega
      · simp [List.getElem?_set]; omega
      · simp [List.getElem?_set]; omega
    · obtain ⟨x, y, z, e1, e2, e3, hx⟩ := h4 j (by omega)
      refine ⟨x, y, z, ?_, ?_, ?_, hx.other h1 h3 hgr⟩
      · rw [List.getElem?_set_ne (by omega), List.getElem?_set_ne (by omega), List.getElem?_set_ne (by omega)]; exact e1
      · rw [List.getElem?_set_ne (by omega), List.getElem?_set_ne (by omega), List.getElem?_set_ne (by omega)]; exact e2
      · rw [List.getElem?_set_ne (by omega), List.getElem?_set_ne (by omega), List.getElem?_set_ne (by omega)]; exact e3

theorem quo_sub (a b : Int) : quo a 1 - quo b 1 = quo (a - b) 1 := by
  have e : ∀ x : Int, quo x 1 = (x : Rat) := fun x => by rw [quo_mk (by omega), show mkRat x (Int.natAbs 1) = (x : Rat) from Rat.mkRat_one x]
  rw [e, e, e, Rat.intCast_sub]

theorem rz_next (n : Int) (i : Nat) : rz (quo n 1) i * quo (n - i) ((i : Int) + 1) = rz (quo n 1) (i + 1) := by
  show _ = rz (quo n 1) i * (quo n 1 - quo i 1) / quo ((i : Int) + 1) 1
  rw [quo_sub, ← quo_div (n - i) ((i : Int) + 1), Rat.div_def, Rat.div_def, Rat.mul_assoc]

theorem c2_56 (a : Act) (d : Option Tmp) (ty : TypeId) (pos : String) (es : Array Edge) (t u : Tmp) (w : World) :
    Sem.run Try.prog (execOp a.eval ⟨d, .call ⟨.value (.func 56), #[.tmp t, .tmp u], #[2, 2]⟩, ty, pos, es, none⟩) w = .ok (.enter 56 #[a.tmps.getD t undef, a.tmps.getD u undef]) w := by go_simp
theorem c2_73b (a : Act) (d : Option Tmp) (ty : TypeId) (pos : String) (es : Array Edge) (t u : Tmp) (w : World) :
    Sem.run Try.prog (execOp a.eval ⟨d, .call ⟨.value (.func 73), #[.tmp t, .tmp u], #[24, 24]⟩, ty, pos, es, none⟩) w = .ok (.enter 73 #[a.tmps.getD t undef, a.tmps.getD u undef]) w := by go_simp

section
variable {κ : Tmp → Ke} {G : Nat → Option Tmp} {d s t u c : Tmp} {ty : TypeId} {pos : String} {es : Array Edge} {k k' : Nat} {p q : Rat}
theorem e_mul73 (ht : κ t = .ra k p) (hu : κ u = .rc k' q) (hd : κ d = .ratC (p * q)) (hk : k + k' ≤ 20000) :
    FlowStep Try.prog (Fe κ) G ⟨some d, .call ⟨.value (.func 73), #[.tmp t, .tmp u], #[24, 24]⟩, ty, pos, es, none⟩ :=
  e_c2 (fun a w => c2_73b _ _ _ _ _ _ _ _) fun w x y hx hy => by
    rw [ht] at hx
    rw [hu] at hy
    have hx : RatA w x k p := hx
    obtain ⟨hy1, hy2⟩ := (show RatC w y q ∧ Sz q k' from hy)
    refine (mul_a (k := k + k') (hx.le (by omega)) ((hy1.a hy2).le (by omega)) hk).mono ?_
    rintro e w' ⟨v, rfl, hv, hb⟩
    exact ⟨v, rfl, by rw [hd]; exact hv, hb⟩
theorem e_small {a b : Int} (ht : κ t = .con (.int .i64 a)) (hu : κ u = .con (.int .i64 b)) (hd : κ d = .rc k (quo a b)) (a1 : -9223372036854775808 ≤ a) (a2 : a ≤ 9223372036854775807) (b1 : -9223372036854775808 ≤ b) (b2 : b ≤ 9223372036854775807) (hs : Sz (quo a b) k) :
    FlowStep Try.prog (Fe κ) G ⟨some d, .call ⟨.value (.func 56), #[.tmp t, .tmp u], #[2, 2]⟩, ty, pos, es, none⟩ := by
  refine e_step rfl fun ac w Q hf => ?_
  have h := hf t (by simp [Op.operands, Call.operands])
  have h' := hf u (by simp [Op.operands, Call.operands])
  rw [ht] at h
  rw [hu] at h'
  have h : ac.tmps.getD t undef = .int .i64 a := h
  have h' : ac.tmps.getD u undef = .int .i64 b := h'
  unfold Oper.wp
  rw [c2_56, h, h', Oper.upon_enter]
  refine (small_any a b w a1 a2 b1 b2).mono ?_
  rintro e w' ⟨v, rfl, hv, hb⟩
  exact ⟨v, rfl, hb, fun d' hd' => by cases hd'; rw [hd]; exact ⟨hv, hs⟩⟩
theorem e_isub {n m : Int} (ht : κ t = .con (.int .i64 n)) (hu : κ u = .con (.int .i64 m)) (hd : κ d = .con (.int .i64 (n - m))) (h1 : -9223372036854775808 ≤ n - m) (h2 : n - m ≤ 9223372036854775807) :
    FlowStep Try.prog (Fe κ) G ⟨some d, .binOp .sub 2 (.tmp t) (.tmp u) 2, ty, pos, es, none⟩ := by
  refine e_step rfl fun a w Q hf => ?_
  have h := hf t (by simp [Op.operands])
  have h' := hf u (by simp [Op.operands])
  rw [ht] at h
  rw [hu] at h'
  have h : a.tmps.getD t undef = .int .i64 n := h
  have h' : a.tmps.getD u undef = .int .i64 m := h'
  unfold Oper.wp
  have hw : IntKind.i64.wrap (n - m) = n - m := IntWalk.i64_in _ (by omega)
  have hr : Sem.run Try.prog (execOp a.eval ⟨some d, .binOp .sub 2 (.tmp t) (.tmp u) 2, ty, pos, es, none⟩) w = .ok (.value (.int .i64 (n - m))) w := by go_simp
  rw [hr, Oper.upon_value]
  exact ⟨_, rfl, Below.refl _ _, fun d' hd' => by cases hd'; rw [hd]; rfl⟩
theorem e_iadd1 {n : Int} (ht : κ t = .con (.int .i64 n)) (hd : κ d = .con (.int .i64 (n + 1))) (h1 : 0 ≤ n) (h2 : n ≤ 1000) :
    FlowStep Try.prog (Fe κ) G ⟨some d, .binOp .add 2 (.tmp t) (.const (.int .i64 1)) 2, ty, pos, es, none⟩ := by
  refine e_step rfl fun a w Q hf => ?_
  have h := hf t (by simp [Op.operands])
  rw [ht] at h
  have h : a.tmps.getD t undef = .int .i64 n := h
  unfold Oper.wp
  have hw : IntKind.i64.wrap (n + 1) = n + 1 := IntWalk.i64_in _ (by omega)
  have hr : Sem.run Try.prog (execOp a.eval ⟨some d, .binOp .add 2 (.tmp t) (.const (.int .i64 1)) 2, ty, pos, es, none⟩) w = .ok (.value (.int .i64 (n + 1))) w := by go_simp
  rw [hr, Oper.upon_value]
  exact ⟨_, rfl, Below.refl _ _, fun d' hd' => by cases hd'; rw [hd]; rfl⟩
end
end Go.Proofs.Ytdpiclmjdcjajaa

/-
  The program's chooses.
-/
namespace Go.Proofs.Ytdpiclmjdcjajaa
open Go.RowKit Num

def ListP (k : Nat) (f : Nat → Rat) (w : World) (e : Ending) (w' : World) : Prop := ∃ g, e = .returned (.slice (some ⟨g, 0, none⟩) k k) ∧ LstI w.heap.size g k f k w' ∧ Below w.heap.size w w'

def chA (n : Int) (s : Rat) (i : Nat) : Tmp → Ke := fun t => ([.con (.int .i64 n), .any, .any, .any, .any, .any, .box 521 s, .con (.int .i64 i), .any, .any, .any, .any, .any, .any, .any, .any, .any, .any, .any, .ra 521 s, .con (.int .i64 n), .con (.int .i64 i), .con (.int .i64 (n - i)), .con (.int .i64 i), .con (.int .i64 ((i : Int) + 1)), .rc 7 (quo (n - i) ((i : Int) + 1)), .ratC (s * quo (n - i) ((i : Int) + 1))] : List Ke).getD t .any

set_option maxRecDepth 100000 in
set_option maxHeartbeats 8000000 in
theorem chooses_any (n : Int) (k : Nat) (w : World) (hk0 : 1 ≤ k) (hk : k ≤ 65) (hn0 : 0 ≤ n) (hn1 : n ≤ 9223372036854775807) :
    Calls Try.prog 58 #[.int .i64 n, .int .i64 k] w (ListP k (rz (quo n 1)) w) := by
  have hb0 := below_alloc1 w (.cells (madeCells #[.bool false, .slice none 0 0, .slice none 0 0] (k * 3)) 24)
  have hL0 := LstI.new w w.heap.size k (rz (quo n 1)) (Nat.le_refl _)
  have hz : ∀ o, (w.alloc o).heap.size = w.heap.size + 1 := fun o => Array.size_push _
  have hsn : Sz (quo n 1) 3 := sz_int (by omega) hn1
  have hs : ∀ i, i ≤ 65 → Sz (rz (quo n 1) i) 521 := fun i hi => by
    by_cases h : i ≤ 64
    · exact sz_le (sz_rz hsn i h) (by omega)
    · obtain rfl : i = 65 := by omega
      have h1 := sz_rz hsn 64 (by omega)
      have h2 := sz_sub hsn (sz_nat (n := 64) (by omega))
      exact sz_le (sz_div (sz_mul h1 h2) (sz_nat (n := 65) (by omega))) (by omega)
  have hq5 : ∀ i : Nat, i < 65 → Sz (quo (n - i) ((i : Int) + 1)) 7 := fun i hi => by
    rw [← quo_div, ← quo_sub]
    refine sz_le (sz_div (sz_sub hsn (sz_nat (n := i) (by omega))) (sz_nat (n := i + 1) (by omega))) (by decide)
  have HA := Lib.hid (And.intro hb0 (And.intro hL0 (And.intro hs hq5)))
  have HZ := Lib.hid hz
  clear hb0 hL0 hs hq5 hz hsn
  go_enter Try.func58, Try.ntmps58
  go_wp2_with fail
  rw [run_make32 k w hk]
  go_wp2_with fail
  refine (fromInt_any 1 _ (by omega) (by omega)).mono ?_
  rintro e w1 ⟨v, rfl, hv, hb1⟩
  rw [quo_one] at hv
  have hlt : w.heap.size < w1.heap.size := by have := hb1.size; rw [HZ.out] at this; omega
  have H1 := Lib.hid (And.intro (HA.out.2.1.below hb1) (And.intro hv (below_next' HA.out.1 hb1)))
  obtain ⟨y1, y2, y3, y4, y5, y6, rfl, _⟩ := hv
  clear hb1
  go_wp2
  have hb2 := below_alloc1 w1 (.cells #[.bool (decide ((1 : Rat).num < 0)), .slice y1 y2 y3, .slice y4 y5 y6] 24)
  have hB2 := BoxV.new w1 w.heap.size 24 (by omega) [.bool (decide ((1 : Rat).num < 0)), .slice y1 y2 y3, .slice y4 y5 y6]
  have HI := Lib.hid (And.intro (H1.out.1.below hb2) (And.intro (below_next' H1.out.2.2 hb2) (show RtO w w1.heap.size (rz (quo n 1) 0) _ from ⟨y1, y2, y3, y4, y5, y6, hB2, H1.out.2.1.below hb2⟩)))
  clear hb2 hB2
  go_loopw [12] (fun i wr => ∃ q : Nat, i = .int .i64 q ∧ q ≤ k ∧ LstI w.heap.size w.heap.size k (rz (quo n 1)) q wr ∧ Below w.heap.size w wr ∧ RtO w w1.heap.size (rz (quo n 1) q) wr) (fun i _ => k - (intOf i).toNat)
  case atStart => exact ⟨0, rfl, Nat.zero_le _, HI.out⟩
  case round =>
    obtain ⟨q, rfl, hq, hT, hbel, an, ln, cn, ad, ld, cd, hBs, hC⟩ := hrel
    by_cases hlt2 : q < k
    · have HL := Lib.hid hlt2
      have hT' := hT
      obtain ⟨xs, l1, l2, l3, _⟩ := hT
      have hxl : q * 3 + 2 < xs.length := by omega
      have c0 : wr.cell? ⟨w.heap.size, q * 3, none⟩ = some xs[q * 3] := by rw [l1.cell _ (by omega)]; exact List.getElem?_eq_getElem _
      have c1 : wr.cell? ⟨w.heap.size, q * 3 + 1, none⟩ = some xs[q * 3 + 1] := by rw [l1.cell _ (by omega)]; exact List.getElem?_eq_getElem _
      have c2 : wr.cell? ⟨w.heap.size, q * 3 + 2, none⟩ = some xs[q * 3 + 2] := by rw [l1.cell _ (by omega)]; exact List.getElem?_eq_getElem _
      have f0 := l1.frozen (q * 3)
      have f1 := l1.frozen (q * 3 + 1)
      have f2 := l1.frozen (q * 3 + 2)
      generalize xs[q * 3] = xa at c0
      generalize xs[q * 3 + 1] = xb at c1
      generalize xs[q * 3 + 2] = xc at c2
      have hgr : wr.grownBy (((wr.setCell ⟨w.heap.size, q * 3, none⟩ (.bool (decide ((rz (quo n 1) q).num < 0)))).setCell ⟨w.heap.size, q * 3 + 1, none⟩ (.slice an ln cn)).setCell ⟨w.heap.size, q * 3 + 2, none⟩ (.slice ad ld cd)) (some w.heap.size) :=
        grown_setCell (grown_setCell (grown_setCell (World.grownBy.refl _ _) _) _) _
      have hT2 := hT'.store hlt2 hC
      have hC2 := hC.other l1 l3 hgr
      have hB2 := hBs.kept hgr (by simp; omega)
      have hbel2 := ((hbel.setCell (p := ⟨w.heap.size, q * 3, none⟩) (Nat.le_refl _) (.bool (decide ((rz (quo n 1) q).num < 0)))).setCell (p := ⟨w.heap.size, q * 3 + 1, none⟩) (Nat.le_refl _) (.slice an ln cn)).setCell (p := ⟨w.heap.size, q * 3 + 2, none⟩) (Nat.le_refl _) (.slice ad ld cd)
      have hbx := boxC_of hB2 hC2 (HA.out.2.2.1 q (by omega))
      obtain ⟨⟨k0, k1, k2⟩, i0, i1, i2⟩ := hBs.three
      have HR := Lib.hid (And.intro hbx (And.intro hB2 (And.intro hT2 hbel2)))
      clear hT' l1 l2 l3 hxl hgr hT2 hC2 hB2 hbel2 hbx hBs hbel hC
      go_wp2_with fail
      refine region_flow_tail (Fe (chA n (rz (quo n 1) q) q)) (by rfl) (Fe.mono _) 29 8 [] (by rfl) (by kernel_rfl) (by kernel_rfl) (by kernel_rfl) (by kernel_rfl) (fun t ht => by cases ht) [0, 6, 7] (by kernel_rfl) ?g0 (Fe.draw _) ?gs ?gf
      case g0 =>
        intro t ht
        simp only [List.mem_cons, List.not_mem_nil, or_false] at ht
        rcases ht with rfl | rfl | rfl
        · rfl
        · exact HR.out.1
        · rfl
      case gs =>
        exact ⟨flowN_of (e_loadC rfl rfl) (by decide), flowN_of (e_move rfl) (by decide), flowN_of (e_move rfl) (by decide), flowN_of (e_isub rfl rfl rfl (by omega) (by omega)) (by decide), flowN_of (e_move rfl) (by decide), flowN_of (e_iadd1 rfl rfl (by omega) (by omega)) (by decide), flowN_of (e_small rfl rfl rfl (by omega) (by omega) (by omega) (by omega) (HA.out.2.2.2 q (by omega))) (by decide), flowN_of (e_mul73 rfl rfl rfl (by omega)) (by decide), trivial⟩
      intro a3 w3 hb3 hsz3 hdf3 hfacts hout _
      have f26 : RatC w3 (a3.tmps.getD 26 undef) (rz (quo n 1) q * quo (n - q) ((q : Int) + 1)) := hfacts 7 26 (by decide) rfl
      rw [rz_next] at f26
      have e0 : a3.tmps.getD 0 undef = .int .i64 n := hout 0 (free_of (by kernel_rfl))
      have e1 : a3.tmps.getD 1 undef = .int .i64 k := hout 1 (free_of (by kernel_rfl))
      have e2 : a3.tmps.getD 2 undef = undef := hout 2 (free_of (by kernel_rfl))
      have e3 : a3.tmps.getD 3 undef = undef := hout 3 (free_of (by kernel_rfl))
      have e4 : a3.tmps.getD 4 undef = .slice none 0 0 := hout 4 (free_of (by kernel_rfl))
      have e5 : a3.tmps.getD 5 undef = .slice (some ⟨w.heap.size, 0, none⟩) k k := hout 5 (free_of (by kernel_rfl))
      have e6 : a3.tmps.getD 6 undef = .pointer (some ⟨w1.heap.size, 0, none⟩) := hout 6 (free_of (by kernel_rfl))
      have e7 : a3.tmps.getD 7 undef = .int .i64 q := hout 7 (free_of (by kernel_rfl))
      have e8 : a3.tmps.getD 8 undef = .int .i64 k := hout 8 (free_of (by kernel_rfl))
      have e9 : a3.tmps.getD 9 undef = .slice (some ⟨w.heap.size, 0, none⟩) k k := hout 9 (free_of (by kernel_rfl))
      have e10 : a3.tmps.getD 10 undef = .agg #[.bool false, .slice y1 y2 y3, .slice y4 y5 y6] := hout 10 (free_of (by kernel_rfl))
      have e11 : a3.tmps.getD 11 undef = .int .i64 k := hout 11 (free_of (by kernel_rfl))
      have e12 : a3.tmps.getD 12 undef = .int .i64 q := hout 12 (free_of (by kernel_rfl))
      have e28 : a3.tmps.getD 28 undef = undef := hout 28 (free_of (by kernel_rfl))
      have hszn : a3.tmps.size = 29 := hsz3
      have hdfn : a3.defers = [] := hdf3
      have hB3 := HR.out.2.1.below hb3
      change runFrom _ _ _ 1 8 a3 w3
      simp only [runFrom]
      refine e_store (t := 6) (u := 26) rfl e6 hB3 f26 fun an' ln' cn' ad' ld' cd' hR => ?_
      have HN := Lib.hid (And.intro ((HR.out.2.2.1.below hb3).other (v0 := .bool (decide ((rz (quo n 1) (q + 1)).num < 0))) (v1 := .slice an' ln' cn') (v2 := .slice ad' ld' cd') hB3 (noLimb_rat _ _ _ _ _ _ _) (by omega)) (And.intro (below_set3 (below_next' HR.out.2.2.2 hb3) hB3.block.1 (.bool (decide ((rz (quo n 1) (q + 1)).num < 0))) (.slice an' ln' cn') (.slice ad' ld' cd')) (RtO.next hB3 (noLimb_rat _ _ _ _ _ _ _) hR)))
      generalize (((w3.setCell ⟨w1.heap.size, 0, none⟩ (.bool (decide ((rz (quo n 1) (q + 1)).num < 0)))).setCell ⟨w1.heap.size, 1, none⟩ (.slice an' ln' cn')).setCell ⟨w1.heap.size, 2, none⟩ (.slice ad' ld' cd')) = w4 at HN ⊢
      obtain ⟨uu, hu⟩ : ∃ u : Nat → Value, ∀ t, a3.tmps.getD t undef = u t := ⟨_, fun _ => rfl⟩
      have ha := act_eq a3 29 hszn hdfn
      simp only [hu] at ha e0 e1 e2 e3 e4 e5 e6 e7 e8 e9 e10 e11 e12 e28
      have ha' : a3 = ⟨#[uu 0, uu 1, uu 2, uu 3, uu 4, uu 5, uu 6, uu 7, uu 8, uu 9, uu 10, uu 11, uu 12, uu 13, uu 14, uu 15, uu 16, uu 17, uu 18, uu 19, uu 20, uu 21, uu 22, uu 23, uu 24, uu 25, uu 26, uu 27, uu 28], []⟩ := ha
      rw [e0, e1, e2, e3, e4, e5, e6, e7, e8, e9, e10, e11, e12, e28] at ha'
      clear ha hu e0 e1 e2 e3 e4 e5 e6 e7 e8 e9 e10 e11 e12 e28 hfacts hout hszn hdfn hsz3 hdf3 f26 hB3 hR hb3 k0 k1 k2 i0 i1 i2 c0 c1 c2 f0 f1 f2
      subst ha'
      go_wp2
      go_round
      case rel => exact ⟨q + 1, by go_num, by have := HL.out; omega, HN.out⟩
      case measure => have := HL.out; simp [intOf]; omega
    · have hqn : q = k := by omega
      subst hqn
      have HF := Lib.hid (And.intro hT hbel)
      clear hT hbel hBs hC hlt2
      go_wp2
      exact bodyPost_ret (v := .slice (some ⟨w.heap.size, 0, none⟩) q q) (by simp [results, Try.results58, go_sem]) rfl ⟨_, rfl, HF.out.1, HF.out.2⟩

end Go.Proofs.Ytdpiclmjdcjajaa

/-
  The program's Choose.
-/
namespace Go.Proofs.Ytdpiclmjdcjajaa
open Go.RowKit Num

set_option maxRecDepth 100000 in
set_option maxHeartbeats 4000000 in
theorem choose_out (n k : Int) (w : World) (hk : k < 0 ∨ 64 < k) : Calls Try.prog 21 #[.int .i64 n, .int .i64 k] w (OkP 0 false w) := by
  have hb0 := below_alloc1 w (.cells #[.bool false, .slice none 0 0, .slice none 0 0] 24)
  have hB := BoxV.new w w.heap.size 24 (Nat.le_refl _) [.bool false, .slice none 0 0, .slice none 0 0]
  obtain ⟨r, hr⟩ : ∃ r : Rat, (0 : Rat) = r := ⟨_, rfl⟩
  rw [hr]
  have HA := Lib.hid (And.intro hb0 (And.intro hB hr))
  clear hb0 hB hr
  rcases hk with hk | hk
  all_goals
    go_enter Try.func21, Try.ntmps21
    go_wp2_with fail
    refine (fromInt_any 0 _ (by omega) (by omega)).mono ?_
    rintro e w2 ⟨v, rfl, hv, hb2⟩
    rw [quo_zero, HA.out.2.2] at hv
    have hB2 := HA.out.2.1.below hb2
    have hbb := below_next' HA.out.1 hb2
    have HV := Lib.hid hv
    obtain ⟨zn, zl, zc, en, el, ec, rfl, _⟩ := hv
    obtain ⟨⟨x0, x1, x2⟩, j0, j1, j2⟩ := hB2.three
    have HF := Lib.hid (And.intro hbb hB2)
    clear hB2 hbb hb2
    go_wp2
    obtain ⟨e1, e2⟩ := ratC_end HF.out.1 HF.out.2 HV.out
    obtain ⟨⟨x0, x1, x2⟩, _⟩ := (HF.out.2.store3 (.bool (decide (r.num < 0))) (.slice zn zl zc) (.slice en el ec)).three
    exact bodyPost_ret (v := .tuple #[.agg #[.bool (decide (r.num < 0)), .slice zn zl zc, .slice en el ec], .bool false]) (by simp [results, Try.results21, go_sem, x0, x1, x2]) rfl ⟨_, rfl, e1, e2⟩

end Go.Proofs.Ytdpiclmjdcjajaa

/-
  The program's Choose within its range.
-/
namespace Go.Proofs.Ytdpiclmjdcjajaa
open Go.RowKit Num

set_option maxRecDepth 100000 in
set_option maxHeartbeats 4000000 in
theorem choose_in (n : Int) (k : Nat) (w : World) (hk : k ≤ 64) (h1 : -9223372036854775808 ≤ n) (h2 : n ≤ 9223372036854775807) :
    Calls Try.prog 21 #[.int .i64 n, .int .i64 k] w (OkP (chQ n k) true w) := by
  have hb0 := below_alloc1 w (.cells #[.bool false, .slice none 0 0, .slice none 0 0] 24)
  have hB := BoxV.new w w.heap.size 24 (Nat.le_refl _) [.bool false, .slice none 0 0, .slice none 0 0]
  obtain ⟨m, hm⟩ : ∃ m, (if n < 0 then 0 else n) = m := ⟨_, rfl⟩
  have hm0 : 0 ≤ m := by rw [← hm]; split <;> omega
  have hm1 : m ≤ 9223372036854775807 := by rw [← hm]; split <;> omega
  have hmx : (if n < 0 then 0 else n) = m := hm
  unfold chQ
  rw [hm]
  have hc := fun w' => chooses_any m (k + 1) w' (by omega) (by omega) hm0 hm1
  rw [show ((k + 1 : Nat) : Int) = (k : Int) + 1 from rfl] at hc
  obtain ⟨r, hr⟩ : ∃ r, rz (quo m 1) k = r := ⟨_, rfl⟩
  rw [hr]
  have HA := Lib.hid (And.intro hb0 (And.intro hB (And.intro hc hr)))
  clear hb0 hB hc hr
  go_enter Try.func21, Try.ntmps21
  have hmm : (n ≤ 0 ∧ 0 = m) ∨ (0 < n ∧ n = m) := by rw [← hm]; split <;> omega
  clear hm hmx
  rcases hmm with ⟨hneg, rfl⟩ | ⟨hneg, rfl⟩
  all_goals
    go_wp2_with fail
    refine (HA.out.2.2.1 _).mono ?_
    rintro e w2 ⟨g, rfl, hL, hb2⟩
    have hB2 := HA.out.2.1.below hb2
    have hbb := below_next' HA.out.1 hb2
    obtain ⟨xs, l1, l2, l3, l4⟩ := hL
    obtain ⟨x, y, z, a1, a2, a3, hR⟩ := l4 k (by omega)
    rw [HA.out.2.2.2] at hR
    have HV := Lib.hid hR
    have c0 : w2.cell? ⟨g, k * 3, none⟩ = some x := by rw [l1.cell _ (by omega)]; exact a1
    have c1 : w2.cell? ⟨g, k * 3 + 1, none⟩ = some y := by rw [l1.cell _ (by omega)]; exact a2
    have c2 : w2.cell? ⟨g, k * 3 + 2, none⟩ = some z := by rw [l1.cell _ (by omega)]; exact a3
    obtain ⟨zn, zl, zc, en, el, ec, he, _⟩ := hR
    obtain ⟨rfl, rfl, rfl⟩ : x = .bool (decide (r.num < 0)) ∧ y = .slice zn zl zc ∧ z = .slice en el ec := by simpa using he
    obtain ⟨⟨x0, x1, x2⟩, j0, j1, j2⟩ := hB2.three
    have HF := Lib.hid (And.intro hbb hB2)
    clear hB2 hbb hb2 l1 l2 l3 l4 a1 a2 a3 he
    go_wp2
    obtain ⟨e1, e2⟩ := ratC_end HF.out.1 HF.out.2 HV.out
    obtain ⟨⟨x0, x1, x2⟩, _⟩ := (HF.out.2.store3 (.bool (decide (r.num < 0))) (.slice zn zl zc) (.slice en el ec)).three
    exact bodyPost_ret (v := .tuple #[.agg #[.bool (decide (r.num < 0)), .slice zn zl zc, .slice en el ec], .bool true]) (by simp [results, Try.results21, go_sem, x0, x1, x2]) rfl ⟨_, rfl, e1, e2⟩


end Go.Proofs.Ytdpiclmjdcjajaa

/-
  The walk of the law BinomialChooses.
-/
namespace Go.Proofs.Ytdpiclmjdcjajaa
open Go.RowKit Num

theorem choose_both (n k : Int) (h1 : -9223372036854775808 ≤ n) (h2 : n ≤ 9223372036854775807) :
    ∃ q b, Sz q 513 ∧ (∀ w, Calls Try.prog 21 #[.int .i64 n, .int .i64 k] w (OkP q b w)) ∧ (∀ w, Calls Try.prog 22 #[.int .i64 n, .int .i64 k] w (OkP q b w)) := by
  by_cases h : 0 ≤ k ∧ k ≤ 64
  · obtain ⟨m, rfl⟩ : ∃ m : Nat, k = m := ⟨k.toNat, by omega⟩
    refine ⟨chQ n m, true, ?_, fun w => choose_in n m w (by omega) h1 h2, fun w => refChoose_in n m w (by omega) h1 h2⟩
    unfold chQ
    exact sz_le (sz_rz (sz_int (by split <;> omega) (by split <;> omega)) m (by omega)) (by omega)
  · exact ⟨0, false, sz_le sz_zero3 (by decide), fun w => choose_out n k w (by omega), fun w => refChoose_out n k w (by omega)⟩

theorem ch52 : chQ 5 2 = 10 := by decide +kernel
theorem quo10 : quo 10 1 = 10 := by decide +kernel

theorem fl_ref48 {κ : Tmp → Kd} {G : Nat → Option Tmp} {d : Tmp} {ty : TypeId} {pos : String} {es : Array Edge} {n : Int} {q : Rat} {g : Option (Nat × Bool)} (hg : GuardYes (Fk κ) G g) (hq : quo n 1 = q) (hd : κ d = .ratC 1 q) (h1 : -9223372036854775808 ≤ n) (h2 : n ≤ 9223372036854775807) (hs : Sz q 1) :
    FlowStep Try.prog (Fk κ) G ⟨some d, .call ⟨.value (.func 48), #[.const (.int .i64 n)], #[2]⟩, ty, pos, es, g⟩ := by
  refine step_yes hg fun a w Q _ => ?_
  unfold Oper.wp
  have hr : Sem.run Try.prog (execOp a.eval ⟨some d, .call ⟨.value (.func 48), #[.const (.int .i64 n)], #[2]⟩, ty, pos, es, g⟩) w = .ok (.enter 48 #[.int .i64 n]) w := by go_simp
  rw [hr, Oper.upon_enter]
  refine (refFromInt_any n w h1 h2).mono ?_
  rintro e w' ⟨v, rfl, hv, hb⟩
  rw [hq] at hv
  exact ⟨v, rfl, hb, fun d' hd' => by cases hd'; unfold Fk; rw [hd]; exact ⟨hv, hs⟩⟩

def awk : Tmp → Kd := fun t => ([.val (.bool true), .boxC 513 10, .val (.bool true), .any, .any, .any, .any, .val (.bool true), .val (.bool true), .ratC 513 10, .ratC 1 10, .val (.bool true), .val (.bool true)] : List Kd).getD t .any

set_option maxRecDepth 100000 in
set_option maxHeartbeats 4000000 in
theorem awake2_any (w : World) : Calls Try.prog 23 #[] w (TrueP w) := by
  have hs10 : Sz (10 : Rat) 1 := by have := sz_nat (n := 10) (by decide); rwa [show quo ((10 : Nat) : Int) 1 = 10 from quo10] at this
  have hc := fun w => choose_in 5 2 w (by decide) (by omega) (by omega)
  rw [ch52] at hc
  have HA := Lib.hid (And.intro hs10 hc)
  clear hs10 hc
  go_enter Try.func23, Try.ntmps23
  go_wp2_with fail
  refine (HA.out.2 w).mono ?_
  rintro e w1 ⟨v, rfl, hv, hb1⟩
  have H1 := Lib.hid (And.intro hv hb1)
  have hsz := hb1.size
  obtain ⟨y1, y2, y3, y4, y5, y6, rfl, _⟩ := hv
  clear hb1
  go_wp2_with fail
  have hb2 := below_alloc1 w1 (.cells #[.bool (decide ((10 : Rat).num < 0)), .slice y1 y2 y3, .slice y4 y5 y6] 24)
  have hB2 := BoxV.new w1 w.heap.size 24 hsz [.bool (decide ((10 : Rat).num < 0)), .slice y1 y2 y3, .slice y4 y5 y6]
  have hbx := boxC_of hB2 (H1.out.1.below hb2) (sz_le HA.out.1 (by decide) : Sz (10 : Rat) 513)
  have HK := Lib.hid (And.intro (below_next' H1.out.2 hb2) hbx)
  clear hb2 hB2 hbx
  refine region_flow (Fk awk) (by rfl) (fun t w w' v hb h => Kd.below hb h) 13 (by rfl) (by kernel_rfl) (by kernel_rfl) [1, 2] (by kernel_rfl) ?h0 (fun t v h => Kd.draw _ _ _ h) ?steps ?fin
  case h0 =>
    intro t ht
    simp only [List.mem_cons, List.not_mem_nil, or_false] at ht
    rcases ht with rfl | rfl
    · exact HK.out.2
    · rfl
  case steps =>
    exact ⟨fl_move guard_none rfl, fl_move guard_none rfl, fl_loadC (guard_true (s := 8) rfl rfl) rfl rfl, fl_ref48 (guard_true (s := 8) rfl rfl) quo10 rfl (by omega) (by omega) HA.out.1, fl_same (guard_true (s := 8) rfl rfl) rfl rfl rfl (same_iff rfl) (by omega), fl_and guard_none rfl rfl, fl_assign guard_none rfl, trivial⟩
  case fin =>
    intro A7 w11 hb11 _ hdf7 hfacts7 _
    have e6 : A7.tmps[0]?.getD undef = .bool true := by rw [← Array.getD_eq_getD_getElem?]; exact hfacts7 6 0 rfl
    have hdd : A7.defers = [] := by rw [hdf7]
    have HR := Lib.hid (below_next' HK.out.1 hb11)
    clear hfacts7 hdf7 hb11
    go_wp2_with fail
    exact bodyPost_ret (v := .bool true) (by simp [results, Try.results23, go_sem, e6]) hdd ⟨rfl, HR.out⟩

set_option maxRecDepth 100000 in
set_option maxHeartbeats 4000000 in
theorem chooses_law (n k : Int) (w : World) (h1 : -9223372036854775808 ≤ n) (h2 : n ≤ 9223372036854775807) : Calls Try.prog 4 #[.int .i64 n, .int .i64 k] w (TrueP w) := by
  obtain ⟨q, b, hs, hp, hr⟩ := choose_both n k h1 h2
  have HA := Lib.hid (And.intro hs (And.intro hp hr))
  clear hs hp hr
  cases b
  all_goals
    go_enter Try.func4, Try.ntmps4
    go_wp2_with fail
    refine (HA.out.2.1 w).mono ?_
    rintro e w1 ⟨v, rfl, hv, hb1⟩
    have H1 := Lib.hid (And.intro hv hb1)
    have hsz := hb1.size
    obtain ⟨y1, y2, y3, y4, y5, y6, rfl, _⟩ := hv
    clear hb1
    go_wp2_with fail
    have hb2 := below_alloc1 w1 (.cells #[.bool (decide (q.num < 0)), .slice y1 y2 y3, .slice y4 y5 y6] 24)
    have hB2 := BoxV.new w1 w.heap.size 24 hsz [.bool (decide (q.num < 0)), .slice y1 y2 y3, .slice y4 y5 y6]
    have H2 := Lib.hid (And.intro (H1.out.1.below hb2) (And.intro (below_next' H1.out.2 hb2) hB2))
    clear hb2 hB2
    refine (HA.out.2.2 _).mono ?_
    rintro e w2 ⟨v, rfl, hv, hb3⟩
    have H3 := Lib.hid (And.intro (H2.out.1.below hb3) (And.intro (below_next' H2.out.2.1 hb3) hv))
    have hB3 := H2.out.2.2.below hb3
    obtain ⟨⟨k0, k1, k2⟩, _⟩ := hB3.three
    have hlt := hB3.block.2
    obtain ⟨x1, x2, x3, x4, x5, x6, rfl, _⟩ := hv
    clear hb3 hB3
    go_wp2_with fail
    have hb4 := below_alloc1 w2 (.cells #[.bool (decide (q.num < 0)), .slice x1 x2 x3, .slice x4 x5 x6] 24)
    have H4 := Lib.hid (below_next' H3.out.2.1 hb4)
    refine (sameRat_any _ _ q q 513 _ (H3.out.1.below hb4) (H3.out.2.2.below hb4) HA.out.1 (by omega)).mono ?_
    rintro e w3 ⟨b', rfl, hb', hb5⟩
    obtain rfl : b' = true := hb'.2 rfl
    have H5 := Lib.hid (below_next' H4.out hb5)
    clear hb4 hb5 hb'
    go_wp2_with fail
    refine (awake2_any _).mono ?_
    rintro e w4 ⟨rfl, hb6⟩
    have H6 := Lib.hid (below_next' H5.out hb6)
    clear hb6
    go_wp2
    go_ret
    exact ⟨rfl, H6.out⟩

end Go.Proofs.Ytdpiclmjdcjajaa

/-
  The recurrence of Pascal for the polynomials of the binomial basis, and the walk of the law BinomialPascal. No conditions.
-/
namespace Go.Proofs.Ytdpiclmjdcjajaa
open Go.RowKit Num

theorem quo_cast (a : Int) : quo a 1 = (a : Rat) := by
  rw [quo_mk (by omega)]
  exact Rat.mkRat_one a
theorem pos1 (i : Nat) : ((i : Rat) + 1) ≠ 0 := by
  have h : (0 : Rat) ≤ (i : Rat) := by exact_mod_cast Nat.zero_le i
  grind
theorem rz_succ (n : Rat) (i : Nat) : rz n (i + 1) = rz n i * (n - (i : Rat)) / ((i : Rat) + 1) := by
  show rz n i * (n - quo i 1) / quo ((i : Int) + 1) 1 = _
  rw [quo_cast, quo_cast]
  push_cast
  rfl
theorem rz_shift (n : Rat) (i : Nat) : rz (n + 1) (i + 1) = rz n i * (n + 1) / ((i : Rat) + 1) := by
  induction i with
  | zero =>
    rw [rz_succ]
    show (1 : Rat) * (n + 1 - ((0 : Nat) : Rat)) / (((0 : Nat) : Rat) + 1) = 1 * (n + 1) / (((0 : Nat) : Rat) + 1)
    grind
  | succ i ih =>
    have h1 := pos1 i
    have h2 := pos1 (i + 1)
    rw [rz_succ (n + 1), ih, rz_succ n i]
    have h3 : ((i + 1 : Nat) : Rat) = (i : Rat) + 1 := by push_cast; rfl
    rw [h3] at h2 ⊢
    grind
theorem rz_pascal (n : Rat) (i : Nat) : rz (n + 1) (i + 1) = rz n i + rz n (i + 1) := by
  have h1 := pos1 i
  rw [rz_shift, rz_succ]
  grind
theorem ch_pascal {n : Int} (h : 0 ≤ n) (k : Nat) : chQ (n + 1) (k + 1) = chQ n k + chQ n (k + 1) := by
  unfold chQ
  rw [if_neg (by omega), if_neg (by omega), ← rz_pascal, quo_cast, quo_cast]
  push_cast
  rfl
theorem sz_ch {n : Int} {k : Nat} (h1 : -9223372036854775808 ≤ n) (h2 : n ≤ 9223372036854775807) (hk : k ≤ 64) : Sz (chQ n k) 513 := by
  unfold chQ
  split
  · exact sz_le (sz_rz (sz_int (by omega) (by omega)) k hk) (by omega)
  · exact sz_le (sz_rz (sz_int h1 h2) k hk) (by omega)

section
variable {κ : Tmp → Kd} {G : Nat → Option Tmp} {d : Tmp} {ty : TypeId} {pos : String} {es : Array Edge} {g : Option (Nat × Bool)}
theorem c0_23 (a : Act) (d : Option Tmp) (ty : TypeId) (pos : String) (es : Array Edge) (g : Option (Nat × Bool)) (w : World) :
    Sem.run Try.prog (execOp a.eval ⟨d, .call ⟨.value (.func 23), #[], #[]⟩, ty, pos, es, g⟩) w = .ok (.enter 23 #[]) w := by go_simp
theorem fl_awake2 (hg : GuardYes (Fk κ) G g) (hd : κ d = .val (.bool true)) :
    FlowStep Try.prog (Fk κ) G ⟨some d, .call ⟨.value (.func 23), #[], #[]⟩, ty, pos, es, g⟩ := by
  refine step_yes hg fun a w Q _ => ?_
  unfold Oper.wp
  rw [c0_23, Oper.upon_enter]
  refine (awake2_any w).mono ?_
  rintro e w' ⟨rfl, hb⟩
  exact ⟨_, rfl, hb, fun d' hd' => by cases hd'; unfold Fk; rw [hd]; rfl⟩
end

def pascalL (A B C : Rat) : Tmp → Kd := fun t => ([.any, .any, .any, .any, .val (.bool true), .boxC 513 A, .val (.bool true), .boxC 513 B, .val (.bool true), .boxC 513 C, .val (.bool true), .any, .any, .any, .any, .any, .any, .any, .any, .any, .any, .any, .any, .any, .any, .any, .any, .any, .any, .any, .any, .any, .any, .any, .any, .any, .any, .any, .any, .any, .any, .any, .any, .any, .any, .any, .val (.bool true), .val (.bool true), .val (.bool true), .val (.bool true), .val (.bool true), .val (.bool true), .val (.bool true), .val (.bool true), .ratC 513 A, .ratC 513 B, .ratC 513 C, .ratC 1027 (B + C), .val (.bool true), .val (.bool true), .val (.bool true), .val (.bool true), .val (.bool true)] : List Kd).getD t .any

set_option maxRecDepth 100000 in
set_option maxHeartbeats 4000000 in
theorem pascal_go (n k : Int) (A B C : Rat) (w : World) (h1 : 0 ≤ n) (h2 : n ≤ 1099511627776) (h3 : 0 ≤ k) (h4 : k ≤ 20) (hA : Sz A 513) (hB : Sz B 513) (hC : Sz C 513) (he : A = B + C)
    (c1 : ∀ w, Calls Try.prog 21 #[.int .i64 (n + 1), .int .i64 (k + 1)] w (OkP A true w)) (c2 : ∀ w, Calls Try.prog 21 #[.int .i64 n, .int .i64 k] w (OkP B true w)) (c3 : ∀ w, Calls Try.prog 21 #[.int .i64 n, .int .i64 (k + 1)] w (OkP C true w)) :
    Calls Try.prog 11 #[.int .i64 n, .int .i64 k] w (TrueP w) := by
  have HA := Lib.hid (And.intro c1 (And.intro c2 (And.intro c3 (And.intro hA (And.intro hB (And.intro hC he))))))
  clear c1 c2 c3 hA hB hC he
  go_enter Try.func11, Try.ntmps11
  go_wp2_with fail
  refine (HA.out.1 _).mono ?_
  rintro e w1 ⟨v1, rfl, hv1, hb1⟩
  have hc1 := hv1
  obtain ⟨a1, b1, e1, f1, g1, i1, rfl, _⟩ := hv1
  obtain ⟨s1, hs1⟩ : ∃ s, decide (A.num < 0) = s := ⟨_, rfl⟩
  rw [hs1] at hc1 ⊢
  have hbx1 := BoxV.new w1 w1.heap.size 24 (Nat.le_refl _) [.bool s1, .slice a1 b1 e1, .slice f1 g1 i1]
  have hba1 := below_alloc1 w1 (.cells #[.bool s1, .slice a1 b1 e1, .slice f1 g1 i1] 24)
  have hk1 := boxC_of (k := 513) hbx1 (hc1.below hba1) HA.out.2.2.2.1
  have H1 := Lib.hid (And.intro hk1 (below_next' hb1 hba1))
  clear hs1 hc1 hbx1 hba1 hk1 hb1
  go_wp2_with fail
  refine (HA.out.2.1 _).mono ?_
  rintro e w2 ⟨v2, rfl, hv2, hb2⟩
  have hc2 := hv2
  obtain ⟨a2, b2, e2, f2, g2, i2, rfl, _⟩ := hv2
  obtain ⟨s2, hs2⟩ : ∃ s, decide (B.num < 0) = s := ⟨_, rfl⟩
  rw [hs2] at hc2 ⊢
  have hbx2 := BoxV.new w2 w2.heap.size 24 (Nat.le_refl _) [.bool s2, .slice a2 b2 e2, .slice f2 g2 i2]
  have hba2 := below_alloc1 w2 (.cells #[.bool s2, .slice a2 b2 e2, .slice f2 g2 i2] 24)
  have hk2 := boxC_of (k := 513) hbx2 (hc2.below hba2) HA.out.2.2.2.2.1
  have H2 := Lib.hid (And.intro hk2 (And.intro (Kd.below (below_next' hb2 hba2) H1.out.1) (below_next' H1.out.2 (below_next' hb2 hba2))))
  clear hs2 hc2 hbx2 hba2 hk2 hb2
  go_wp2_with fail
  refine (HA.out.2.2.1 _).mono ?_
  rintro e w3 ⟨v3, rfl, hv3, hb3⟩
  have hc3 := hv3
  obtain ⟨a3, b3, e3, f3, g3, i3, rfl, _⟩ := hv3
  obtain ⟨s3, hs3⟩ : ∃ s, decide (C.num < 0) = s := ⟨_, rfl⟩
  rw [hs3] at hc3 ⊢
  have hbx3 := BoxV.new w3 w3.heap.size 24 (Nat.le_refl _) [.bool s3, .slice a3 b3 e3, .slice f3 g3 i3]
  have hba3 := below_alloc1 w3 (.cells #[.bool s3, .slice a3 b3 e3, .slice f3 g3 i3] 24)
  have hk3 := boxC_of (k := 513) hbx3 (hc3.below hba3) HA.out.2.2.2.2.2.1
  have H3 := Lib.hid (And.intro hk3 (And.intro (Kd.below (below_next' hb3 hba3) H2.out.1) (And.intro (Kd.below (below_next' hb3 hba3) H2.out.2.1) (below_next' H2.out.2.2 (below_next' hb3 hba3)))))
  clear hs3 hc3 hbx3 hba3 hk3 hb3
  go_wp2_with fail
  refine region_flow (Fk (pascalL A B C)) (by rfl) (fun t w w' v hb h => Kd.below hb h) 63 (by rfl) (by kernel_rfl) (by kernel_rfl) [5, 6, 7, 8, 9, 10] (by kernel_rfl) ?h0 (fun t v h => Kd.draw _ _ _ h) ?steps ?fin
  case h0 =>
    intro t ht
    simp only [List.mem_cons, List.not_mem_nil, or_false] at ht
    rcases ht with rfl | rfl | rfl | rfl | rfl | rfl
    · exact H3.out.2.2.1
    · rfl
    · exact H3.out.2.1
    · rfl
    · exact H3.out.1
    · rfl
  case steps =>
    exact ⟨fl_move guard_none rfl,
      fl_move guard_none rfl,
      fl_move (guard_true (s := 47) rfl rfl) rfl,
      fl_and guard_none rfl rfl,
      fl_move guard_none rfl,
      fl_move (guard_true (s := 50) rfl rfl) rfl,
      fl_and guard_none rfl rfl,
      fl_move guard_none rfl,
      fl_loadC (guard_true (s := 53) rfl rfl) rfl rfl,
      fl_loadC (guard_true (s := 53) rfl rfl) rfl rfl,
      fl_loadC (guard_true (s := 53) rfl rfl) rfl rfl,
      fl_refAdd (guard_true (s := 53) rfl rfl) (.inr rfl) (.inr rfl) rfl (by omega),
      fl_same (guard_true (s := 53) rfl rfl) rfl rfl rfl (same_iff HA.out.2.2.2.2.2.2) (by omega),
      fl_and guard_none rfl rfl,
      fl_move guard_none rfl,
      fl_awake2 (guard_true (s := 60) rfl rfl) rfl,
      fl_and guard_none rfl rfl,
      fl_assign guard_none rfl,
      trivial⟩
  case fin =>
    intro A7 w11 hb11 _ hdf7 hfacts7 _
    have e4 : A7.tmps[4]?.getD undef = .bool true := by rw [← Array.getD_eq_getD_getElem?]; exact hfacts7 17 4 rfl
    have hdd : A7.defers = [] := by rw [hdf7]
    have HR := Lib.hid (below_next' H3.out.2.2.2 hb11)
    clear hfacts7 hdf7 hb11
    go_wp2_with fail
    exact bodyPost_ret (v := .bool true) (by simp [results, Try.results11, go_sem, e4]) hdd ⟨rfl, HR.out⟩

set_option maxRecDepth 100000 in
theorem pascal_out (n k : Int) (w : World) (h : n < 0 ∨ 1099511627776 < n ∨ k < 0 ∨ 20 < k) : Calls Try.prog 11 #[.int .i64 n, .int .i64 k] w (TrueP w) := by
  by_cases h1 : n < 0
  · clear h
    go_enter Try.func11, Try.ntmps11
    go_wp2
    go_ret
    exact ⟨rfl, Below.refl _ _⟩
  · by_cases h2 : 1099511627776 < n
    · clear h
      go_enter Try.func11, Try.ntmps11
      go_wp2
      go_ret
      exact ⟨rfl, Below.refl _ _⟩
    · by_cases h3 : k < 0
      · clear h
        go_enter Try.func11, Try.ntmps11
        go_wp2
        go_ret
        exact ⟨rfl, Below.refl _ _⟩
      · have h4 : 20 < k := by omega
        clear h
        go_enter Try.func11, Try.ntmps11
        go_wp2
        go_ret
        exact ⟨rfl, Below.refl _ _⟩

theorem pascal_walk (n k : Int) (w : World) : Calls Try.prog 11 #[.int .i64 n, .int .i64 k] w (TrueP w) := by
  by_cases h : n < 0 ∨ 1099511627776 < n ∨ k < 0 ∨ 20 < k
  · exact pascal_out n k w h
  · obtain ⟨m, rfl⟩ : ∃ m : Nat, k = m := ⟨k.toNat, by omega⟩
    exact pascal_go n m _ _ _ w (by omega) (by omega) (by omega) (by omega) (sz_ch (n := n + 1) (k := m + 1) (by omega) (by omega) (by omega)) (sz_ch (n := n) (k := m) (by omega) (by omega) (by omega)) (sz_ch (n := n) (k := m + 1) (by omega) (by omega) (by omega)) (ch_pascal (by omega) m)
      (fun w => choose_in (n + 1) (m + 1) w (by omega) (by omega) (by omega)) (fun w => choose_in n m w (by omega) (by omega) (by omega)) (fun w => choose_in n (m + 1) w (by omega) (by omega) (by omega))
end Go.Proofs.Ytdpiclmjdcjajaa
