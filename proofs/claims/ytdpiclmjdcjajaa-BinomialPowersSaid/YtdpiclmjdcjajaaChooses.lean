/-
  The walk of the law BinomialChooses: for every two integers of their types it returns true. No conditions.
-/
import Derived.Test.YtdpiclmjdcjajaaFlow7
import Derived.Test.YtdpiclmjdcjajaaFlow4
import Derived.Test.YtdpiclmjdcjajaaS1
import Derived.Test.YtdpiclmjdcjajaaRat
import Derived.Laws.Rows
import Derived.Laws.OwnMore
import Derived.Deep.LoopGhost
import Derived.Lib.Hide
/-
  A region that draws its order, with one store at its end and one operation that may run behind the store. Of any program.
-/
namespace Go.Proofs.Ytdpiclmjdcjajaa
open Go.RowKit

set_option maxHeartbeats 1000000 in
theorem flow_step1 {P : Program} {F : Tmp → World → Value → Prop} {ops : Array Oper} {Q : Exit → Act → World → Prop} {A : Act} {W : World}
    (mono : ∀ t w w' v, Below w.heap.size w w' → F t w v → F t w' v) (hok : flowOk ops = true) (hroom : flowRoom ops A.tmps.size = true) :
    ∀ i l a w, (∀ o, ops[i]? = some o → FlowStep P F (slotAt ops) o) → i ∈ Region.ready .any ops l → FlowI F ops A W l a w → wpOp P ops Q i (FlowI F ops A W (l.setIfInBounds i true)) a w := by
  unfold flowOk at hok
  rw [List.all_eq_true] at hok
  intro i l a w steps hi hI
  have hlt := (ready_left hi)
  obtain ⟨o, ho⟩ : ∃ o, ops[i]? = some o := ⟨_, Array.getElem?_eq_getElem hlt.1⟩
  have hoki := hok i (by simpa using hlt.1)
  rw [ho] at hoki
  simp only [Bool.and_eq_true, List.all_eq_true, Bool.or_eq_true, bne_iff_ne, ne_eq, List.mem_range, Array.any_eq_true', beq_iff_eq] at hoki
  obtain ⟨⟨_, huniq⟩, hlooks⟩ := hoki
  have hready : ∀ e ∈ o.after, Region.binds .any e = true → l.getD e.on false = true := by
    have hi' := hi
    simp only [Region.ready, List.mem_filter, List.mem_range, Bool.and_eq_true, ho, Option.map_some, Option.getD_some, Array.all_eq_true', Bool.or_eq_true, Bool.not_eq_true'] at hi'
    intro e he hb
    rcases hi'.2.2 e he with h | h
    · rw [hb] at h; cases h
    · exact h
  have huniqj : ∀ d, o.dst = some d → ∀ j, slotAt ops j = some d → j = i := by
    intro d hd j hj
    rw [hd] at huniq
    simp only [List.all_eq_true, List.mem_range, Bool.or_eq_true, beq_iff_eq, bne_iff_ne, ne_eq] at huniq
    have hlt : j < ops.size := by
      rcases Nat.lt_or_ge j ops.size with h | h
      · exact h
      · unfold slotAt at hj
        rw [Array.getElem?_eq_none h] at hj
        cases hj
    rcases huniq j hlt with h | h
    · exact h
    · exact absurd hj h
  have hfacts : ∀ t, (.tmp t ∈ o.op.operands.toList ∨ ∃ g, o.guard = some g ∧ slotAt ops g.1 = some t) → F t w (a.tmps.getD t undef) := by
    intro t ht
    have hmem := looksAt_mem ht
    refine hI.facts t ⟨i, o, ho, .inl hmem⟩ ?_
    intro j hj
    rcases hlooks t hmem with h | ⟨e, he, hb, hs⟩
    · have hlt : j < ops.size := by
        rcases Nat.lt_or_ge j ops.size with h | h
        · exact h
        · unfold slotAt at hj
          rw [Array.getElem?_eq_none h] at hj
          cases hj
      exact absurd hj (h j hlt)
    · have hl := hready e he hb
      have hje : j = e.on := by
        have hlt : e.on < ops.size := by
          rcases Nat.lt_or_ge e.on ops.size with h | h
          · exact h
          · unfold slotAt at hs
            rw [Array.getElem?_eq_none h] at hs
            cases hs
        have hoke := hok e.on (by simpa using hlt)
        obtain ⟨o', ho'⟩ : ∃ o', ops[e.on]? = some o' := ⟨_, Array.getElem?_eq_getElem hlt⟩
        rw [ho'] at hoke
        have hd' : o'.dst = some t := by unfold slotAt at hs; rw [ho'] at hs; exact hs
        simp only [Bool.and_eq_true, hd', List.all_eq_true, List.mem_range, Bool.or_eq_true, beq_iff_eq, bne_iff_ne, ne_eq] at hoke
        have hltj : j < ops.size := by
          rcases Nat.lt_or_ge j ops.size with h | h
          · exact h
          · unfold slotAt at hj
            rw [Array.getElem?_eq_none h] at hj
            cases hj
        rcases hoke.1.2 j hltj with h | h
        · exact h
        · exact absurd hj h
      rw [hje]
      have hlt : e.on < l.size := by
        rcases Nat.lt_or_ge e.on l.size with h | h
        · exact h
        · simp [Array.getD_eq_getD_getElem?, Array.getElem?_eq_none h] at hl
      simp only [Array.getD_eq_getD_getElem?, Array.getElem?_eq_getElem hlt, Option.getD_some] at hl ⊢
      exact hl
  have hst := steps o ho a w Q hfacts
  have hw := flow_wanted (ops := ops) (a := a) (o := o) (by rw [hI.size]; exact hroom)
  have next : ∀ v w', Below w.heap.size w w' → (∀ d, o.dst = some d → F d w' v) → FlowI F ops A W (l.setIfInBounds i true) (a.put o.dst v) w' := by
    intro v w' hb hd
    have hlst : ∀ j, j ≠ i → (l.setIfInBounds i true).getD j true = l.getD j true := by
      intro j hj
      have : i ≠ j := fun e => hj e.symm
      simp [Array.getD_eq_getD_getElem?, this]
    have hdlt : ∀ d, o.dst = some d → d < a.tmps.size := by
      intro d hd'
      rw [hI.size]
      unfold flowRoom at hroom
      rw [List.all_eq_true] at hroom
      have := hroom i (by simpa using hlt.1)
      have hs : slotAt ops i = some d := by unfold slotAt; rw [ho]; exact hd'
      rw [hs] at this
      simpa using this
    refine ⟨below_next hI.B hb, by rw [put_size]; exact hI.size, ?_, by simpa using hI.lsize, ?_, ?_⟩
    · cases o.dst <;> exact hI.defers
    · intro t ht hl
      cases hdst : o.dst with
      | none =>
        show F t w' (a.tmps.getD t undef)
        refine mono t w w' _ hb (hI.facts t ht fun j hj => ?_)
        have hne : j ≠ i := by
          rintro rfl
          unfold slotAt at hj
          rw [ho] at hj
          simp only [Option.bind_some, hdst] at hj
          cases hj
        rw [← hlst j hne]
        exact hl j hj
      | some d =>
        rw [put_getD _ _ _ _ (hdlt d hdst)]
        by_cases h : d = t
        · rw [if_pos h]
          subst h
          exact hd d hdst
        · rw [if_neg h]
          refine mono t w w' _ hb (hI.facts t ht fun j hj => ?_)
          have hne : j ≠ i := by
            rintro rfl
            unfold slotAt at hj
            rw [ho] at hj
            simp only [Option.bind_some, hdst] at hj
            exact h (Option.some.inj hj)
          rw [← hlst j hne]
          exact hl j hj
    · intro t ht
      cases hdst : o.dst with
      | none => exact hI.out t ht
      | some d =>
        rw [put_getD _ _ _ _ (hdlt d hdst), if_neg, hI.out t ht]
        rintro rfl
        exact ht i (by unfold slotAt; rw [ho]; exact hdst)
  unfold wpOp
  rw [ho]
  simp only
  rw [hw]
  by_cases hwant : flowWanted (slotAt ops) o (fun t => a.tmps.getD t undef) = true
  · rw [if_pos hwant]
    left
    refine Oper.wp_mono ?_ (hst.1 hwant)
    rintro a' w' ⟨v, rfl, hb, hd⟩
    exact next v w' hb hd
  · rw [if_neg hwant]
    exact next undef w (Below.refl _ _) (hst.2 (by simpa using hwant))


/-- Steps of all operations but the s-th. -/
def FlowStepsBut (P : Program) (F : Tmp → World → Value → Prop) (G : Nat → Option Tmp) : Nat → List Oper → Prop
  | _, [] => True
  | 0, _ :: r => FlowSteps P F G r
  | s + 1, o :: r => FlowStep P F G o ∧ FlowStepsBut P F G s r

theorem flowStepsBut_get {P : Program} {F : Tmp → World → Value → Prop} {G : Nat → Option Tmp} : ∀ {s : Nat} {l : List Oper} (_ : FlowStepsBut P F G s l) {i : Nat} {o : Oper}, i ≠ s → l[i]? = some o → FlowStep P F G o
  | _, [], _, _, _, _, h => by simp at h
  | 0, _ :: r, hs, 0, _, hi, _ => absurd rfl hi
  | 0, _ :: r, hs, i + 1, o, _, h => flowSteps_get (l := r) hs (i := i) (o := o) (by simpa using h)
  | s + 1, x :: r, hs, 0, o, _, h => by
    obtain rfl : x = o := by simpa using h
    exact hs.1
  | s + 1, x :: r, hs, i + 1, o, hi, h => flowStepsBut_get (s := s) (l := r) hs.2 (i := i) (o := o) (by omega) (by simpa using h)

/-- The s-th comes behind all but the j-th. -/
def lateOk (ops : Array Oper) (s j : Nat) : Bool :=
  decide (s < ops.size) && decide (j < ops.size) && (s != j) && match ops[s]? with
    | none => false
    | some o => (o.dst == none) && (List.range ops.size).all fun i => i == s || i == j || o.after.any fun e => Region.binds .any e && e.on == i

theorem all_done {ops : Array Oper} (hok : flowOk ops = true) {l : Array Bool} (hls : l.size = ops.size) (hr : Region.ready .any ops l = []) : ∀ j, j < ops.size → l.getD j true = true := by
  unfold flowOk at hok
  rw [List.all_eq_true] at hok
  intro j
  induction j using Nat.strongRecOn with
  | ind j ih =>
    intro hj
    by_cases hl : l.getD j true = true
    · exact hl
    · exfalso
      have hokj := hok j (by simpa using hj)
      obtain ⟨o, ho⟩ : ∃ o, ops[j]? = some o := ⟨_, Array.getElem?_eq_getElem hj⟩
      rw [ho] at hokj
      simp only [Bool.and_eq_true, Array.all_eq_true', Bool.or_eq_true, Bool.not_eq_true', decide_eq_true_eq] at hokj
      have hmem : j ∈ Region.ready .any ops l := by
        simp only [Region.ready, List.mem_filter, List.mem_range, Bool.and_eq_true, ho, Option.map_some, Option.getD_some, Array.all_eq_true', Bool.or_eq_true, Bool.not_eq_true']
        refine ⟨hj, by simpa using hl, fun e he => ?_⟩
        rcases hokj.1.1 e he with h | h
        · exact .inl h
        · right
          have h1 := ih e.on h (by omega)
          have hlt : e.on < l.size := by omega
          simp [Array.getD_eq_getD_getElem?, hlt] at h1 ⊢
          exact h1
      rw [hr] at hmem
      cases hmem

set_option maxHeartbeats 1000000 in
theorem region_flow_late {P : Program} (F : Tmp → World → Value → Prop) {ops : Array Oper} {Q : Exit → Act → World → Prop} {id : Nat} {A : Act} {W : World} (hm : P.follows .mixedOrders = true)
    (mono : ∀ t w w' v, Below w.heap.size w w' → F t w v → F t w' v)
    (n s j : Nat) (hn : A.tmps.size = n) (hok : flowOk ops = true) (hroom : flowRoom ops n = true) (hlate : lateOk ops s j = true)
    (L : List Tmp) (hL : flowOuts ops L = true) (h0 : ∀ t ∈ L, F t W (A.tmps.getD t undef))
    (hdraw : ∀ t v, F t W v → F t { W with drawn := W.drawn + 1 } v)
    (steps : FlowStepsBut P F (slotAt ops) s ops.toList)
    (fin : ∀ a w, Below W.heap.size W w → a.tmps.size = A.tmps.size → a.defers = A.defers → (∀ i d, i ≠ j → slotAt ops i = some d → F d w (a.tmps.getD d undef)) → (∀ t, (∀ j, slotAt ops j ≠ some t) → a.tmps.getD t undef = A.tmps.getD t undef) →
      wpOp P ops Q s (fun a' w' => Q .normal a' w' ∧ wpOp P ops Q j (Q .normal) a' w') a w) :
    (Code.region id ops true).wp P Q A W := by
  subst hn
  unfold lateOk at hlate
  simp only [Bool.and_eq_true, decide_eq_true_eq, bne_iff_ne, ne_eq] at hlate
  obtain ⟨⟨⟨hs, hj⟩, hsj⟩, hlate⟩ := hlate
  obtain ⟨os, hos⟩ : ∃ o, ops[s]? = some o := ⟨_, Array.getElem?_eq_getElem hs⟩
  rw [hos] at hlate
  simp only [Bool.and_eq_true, beq_iff_eq, List.all_eq_true, List.mem_range, Bool.or_eq_true, Array.any_eq_true'] at hlate
  obtain ⟨hsd, hlate⟩ := hlate
  have huniq : ∀ i i' d, slotAt ops i = some d → slotAt ops i' = some d → i = i' := by
    intro i i' d hi hi'
    have hlt := slot_lt hi
    have hlt' := slot_lt hi'
    have hk := hok
    unfold flowOk at hk
    rw [List.all_eq_true] at hk
    have := hk i (by simpa using hlt)
    obtain ⟨o, ho⟩ : ∃ o, ops[i]? = some o := ⟨_, Array.getElem?_eq_getElem hlt⟩
    rw [ho] at this
    have hd : o.dst = some d := by unfold slotAt at hi; rw [ho] at hi; exact hi
    simp only [Bool.and_eq_true, hd, List.all_eq_true, List.mem_range, Bool.or_eq_true, beq_iff_eq, bne_iff_ne, ne_eq] at this
    rcases this.1.2 i' hlt' with h | h
    · exact h.symm
    · exact absurd hi' h
  let I : Array Bool → Act → World → Prop := fun l a w =>
    l.size = ops.size ∧ ((FlowI F ops A W l a w ∧ l.getD s true = false) ∨
    ((∀ i, i < ops.size → i ≠ j → l.getD i true = true) ∧ ((l.getD j true = true ∧ Q .normal a w) ∨ (l.getD j true = false ∧ wpOp P ops Q j (Q .normal) a w))))
  refine region_inv hm I ?_ ?_ ?_
  · refine ⟨by simp, .inl ⟨flow_start ((Below.refl _ _).drew) L hL h0 hdraw, ?_⟩⟩
    simp [Array.getD_eq_getD_getElem?, hs]
  · intro i l a w hi ⟨hls, hI⟩
    have hlt := ready_left hi
    have hoth : ∀ i', i' ≠ i → (l.setIfInBounds i true).getD i' true = l.getD i' true := by
      intro i' h
      have : i ≠ i' := fun e => h e.symm
      simp [Array.getD_eq_getD_getElem?, this]
    have hown : (l.setIfInBounds i true).getD i true = true := by
      have : i < l.size := by rw [hls]; exact hlt.1
      simp [Array.getD_eq_getD_getElem?, this]
    rcases hI with ⟨hI, hl⟩ | ⟨hd, hI⟩
    · by_cases his : i = s
      · subst his
        have hdone : ∀ i', i' < ops.size → i' ≠ i → i' ≠ j → l.getD i' true = true := by
          intro i' hi' h1 h2
          rcases hlate i' hi' with (h | h) | ⟨e, he, hb, rfl⟩
          · exact absurd h h1
          · exact absurd h h2
          · have hi2 := hi
            simp only [Region.ready, List.mem_filter, List.mem_range, Bool.and_eq_true, hos, Option.map_some, Option.getD_some, Array.all_eq_true', Bool.or_eq_true, Bool.not_eq_true'] at hi2
            rcases hi2.2.2 e he with h | h
            · rw [hb] at h; cases h
            · rw [getD_le (by omega) true false]
              exact h
        refine wpOp_mono ?_ (fin a w hI.B hI.size hI.defers (fun i' d hne hd => ?_) hI.out)
        · rintro a' w' ⟨h1, h2⟩
          refine ⟨by simpa using hls, .inr ⟨fun i' hi' hne => ?_, ?_⟩⟩
          · by_cases he : i' = i
            · subst he; exact hown
            · rw [hoth i' he]; exact hdone i' hi' he hne
          · have hji : j ≠ i := fun e => hsj e.symm
            rw [hoth j hji]
            cases hlj : l.getD j true
            · exact .inr ⟨rfl, h2⟩
            · exact .inl ⟨rfl, h1⟩
        · have hlt' := slot_lt hd
          refine hI.facts d ⟨i', _, Array.getElem?_eq_getElem hlt', .inr (by unfold slotAt at hd; rw [Array.getElem?_eq_getElem hlt'] at hd; exact hd)⟩ fun j' hj' => ?_
          rw [huniq j' i' d hj' hd]
          refine hdone i' hlt' ?_ hne
          rintro rfl
          unfold slotAt at hd
          rw [hos] at hd
          simp [hsd] at hd
      · refine wpOp_mono ?_ (flow_step1 mono hok hroom i l a w (fun o ho => flowStepsBut_get steps his (by simpa using ho)) hi hI)
        intro a' w' h
        exact ⟨by simpa using hls, .inl ⟨h, by rw [hoth s (fun e => his e.symm)]; exact hl⟩⟩
    · have hij : i = j := by
        by_cases h : i = j
        · exact h
        · have := hd i hlt.1 h
          rw [hlt.2] at this
          cases this
      subst hij
      rcases hI with ⟨h, _⟩ | ⟨_, h⟩
      · rw [hlt.2] at h
        cases h
      · refine wpOp_mono ?_ h
        intro a' w' h'
        exact ⟨by simpa using hls, .inr ⟨fun i' hi' hne => by rw [hoth i' hne]; exact hd i' hi' hne, .inl ⟨hown, h'⟩⟩⟩
  · intro l a w hr ⟨hls, hI⟩
    have hall := all_done hok hls hr
    rcases hI with ⟨_, h⟩ | ⟨_, ⟨_, h⟩ | ⟨h, _⟩⟩
    · rw [hall s hs] at h; cases h
    · exact h
    · rw [hall j hj] at h; cases h

end Go.Proofs.Ytdpiclmjdcjajaa

/-
  The reference's walk of ratio: n (n - 1) .. (n - k + 1) / k!. Conditions: n has at most three limbs, k is at most 64.
-/
namespace Go.Proofs.Ytdpiclmjdcjajaa
open Go.RowKit Num

def rz (n : Rat) : Nat → Rat
  | 0 => 1
  | i + 1 => rz n i * (n - quo i 1) / quo ((i : Int) + 1) 1

theorem sz_le {q : Rat} {a b : Nat} (h : Sz q a) (hab : a ≤ b) : Sz q b := ⟨Nat.lt_of_lt_of_le h.1 (pw_le hab), Nat.lt_of_lt_of_le h.2 (pw_le hab)⟩
theorem sz_nat {n : Nat} (h : n ≤ 1000) : Sz (quo n 1) 1 := by
  have e : quo (n : Int) 1 = rat false n 1 := quo_pos n 1
  rw [e]
  exact sz_rat (show n < 1000000000 by omega) (by decide) (by omega)
theorem sz_rz {n : Rat} (hn : Sz n 3) : ∀ i, i ≤ 64 → Sz (rz n i) (8 * i + 1)
  | 0, _ => by
    show Sz (1 : Rat) 1
    exact sz_le (sz_nat (n := 1) (by decide)) (Nat.le_refl _)
  | i + 1, hi => by
    have h1 := sz_rz hn i (by omega)
    have h2 := sz_sub hn (sz_nat (n := i) (by omega))
    have h3 := sz_div (sz_mul h1 h2) (sz_nat (n := i + 1) (by omega))
    exact sz_le h3 (by omega)

def Ke.rc (k : Nat) (p : Rat) : Ke := ⟨fun w v => RatC w v p ∧ Sz p k, fun hb h => ⟨h.1.below hb, h.2⟩⟩
def Ke.tup (p : Rat) : Ke := ⟨fun w v => ∃ x ok, v = .tuple #[x, .bool ok] ∧ RatC w x p, fun hb ⟨x, ok, e, h⟩ => ⟨x, ok, e, h.below hb⟩⟩

theorem c2_81 (a : Act) (d : Option Tmp) (ty : TypeId) (pos : String) (es : Array Edge) (t u : Tmp) (w : World) :
    Sem.run Try.prog (execOp a.eval ⟨d, .call ⟨.value (.func 81), #[.tmp t, .tmp u], #[24, 24]⟩, ty, pos, es, none⟩) w = .ok (.enter 81 #[a.tmps.getD t undef, a.tmps.getD u undef]) w := by go_simp
theorem c2_45 (a : Act) (d : Option Tmp) (ty : TypeId) (pos : String) (es : Array Edge) (t u : Tmp) (w : World) :
    Sem.run Try.prog (execOp a.eval ⟨d, .call ⟨.value (.func 45), #[.tmp t, .tmp u], #[24, 24]⟩, ty, pos, es, none⟩) w = .ok (.enter 45 #[a.tmps.getD t undef, a.tmps.getD u undef]) w := by go_simp
theorem c2_68 (a : Act) (d : Option Tmp) (ty : TypeId) (pos : String) (es : Array Edge) (t u : Tmp) (w : World) :
    Sem.run Try.prog (execOp a.eval ⟨d, .call ⟨.value (.func 68), #[.tmp t, .tmp u], #[24, 24]⟩, ty, pos, es, none⟩) w = .ok (.enter 68 #[a.tmps.getD t undef, a.tmps.getD u undef]) w := by go_simp
theorem c1_48 (a : Act) (d : Option Tmp) (ty : TypeId) (pos : String) (es : Array Edge) (t : Tmp) (w : World) :
    Sem.run Try.prog (execOp a.eval ⟨d, .call ⟨.value (.func 48), #[.tmp t], #[2]⟩, ty, pos, es, none⟩) w = .ok (.enter 48 #[a.tmps.getD t undef]) w := by go_simp

section
variable {κ : Tmp → Ke} {G : Nat → Option Tmp} {d s t u c : Tmp} {ty : TypeId} {pos : String} {es : Array Edge} {k k' : Nat} {p q : Rat}
theorem e_c2 {f : FuncId} (hrun : ∀ (a : Act) (w : World), Sem.run Try.prog (execOp a.eval ⟨some d, .call ⟨.value (.func f), #[.tmp t, .tmp u], #[24, 24]⟩, ty, pos, es, none⟩) w = .ok (.enter f #[a.tmps.getD t undef, a.tmps.getD u undef]) w)
    (hc : ∀ w x y, (κ t).holds w x → (κ u).holds w y → Calls Try.prog f #[x, y] w (fun e w' => ∃ r, e = .returned r ∧ (κ d).holds w' r ∧ Below w.heap.size w w')) :
    FlowStep Try.prog (Fe κ) G ⟨some d, .call ⟨.value (.func f), #[.tmp t, .tmp u], #[24, 24]⟩, ty, pos, es, none⟩ := by
  refine e_step rfl fun a w Q hf => ?_
  unfold Oper.wp
  rw [hrun, Oper.upon_enter]
  refine (hc w _ _ (hf t (by simp [Op.operands, Call.operands])) (hf u (by simp [Op.operands, Call.operands]))).mono ?_
  rintro e w' ⟨r, rfl, hr, hb⟩
  exact ⟨r, rfl, hb, fun d' hd' => by cases hd'; exact hr⟩
theorem e_fromI {n : Int} (ht : κ t = .con (.int .i64 n)) (hd : κ d = .rc k (quo n 1)) (h1 : -9223372036854775808 ≤ n) (h2 : n ≤ 9223372036854775807) (hs : Sz (quo n 1) k) :
    FlowStep Try.prog (Fe κ) G ⟨some d, .call ⟨.value (.func 48), #[.tmp t], #[2]⟩, ty, pos, es, none⟩ := by
  refine e_step rfl fun a w Q hf => ?_
  have h := hf t (by simp [Op.operands, Call.operands])
  rw [ht] at h
  have h : a.tmps.getD t undef = .int .i64 n := h
  unfold Oper.wp
  rw [c1_48, h, Oper.upon_enter]
  refine (refFromInt_any n w h1 h2).mono ?_
  rintro e w' ⟨v, rfl, hv, hb⟩
  exact ⟨v, rfl, hb, fun d' hd' => by cases hd'; rw [hd]; exact ⟨hv, hs⟩⟩
theorem e_sub2 {m : Nat} (ht : κ t = .ra k p) (hu : κ u = .rc k' q) (hd : κ d = .rc m (p - q)) (hs : Sz (p - q) m) (hk : k + k' ≤ 7000) :
    FlowStep Try.prog (Fe κ) G ⟨some d, .call ⟨.value (.func 81), #[.tmp t, .tmp u], #[24, 24]⟩, ty, pos, es, none⟩ :=
  e_c2 (fun a w => c2_81 _ _ _ _ _ _ _ _) fun w x y hx hy => by
    rw [ht] at hx
    rw [hu] at hy
    have hx : RatA w x k p := hx
    obtain ⟨hy1, hy2⟩ := (show RatC w y q ∧ Sz q k' from hy)
    refine (refSub_a (k := k + k') (hx.le (by omega)) ((hy1.a hy2).le (by omega)) hk).mono ?_
    rintro e w' ⟨v, rfl, hv, hb⟩
    exact ⟨v, rfl, by rw [hd]; exact ⟨hv, hs⟩, hb⟩
theorem e_mul2 (ht : κ t = .ra k p) (hu : κ u = .rc k' q) (hd : κ d = .ratC (p * q)) (hk : k + k' ≤ 20000) :
    FlowStep Try.prog (Fe κ) G ⟨some d, .call ⟨.value (.func 45), #[.tmp t, .tmp u], #[24, 24]⟩, ty, pos, es, none⟩ :=
  e_c2 (fun a w => c2_45 _ _ _ _ _ _ _ _) fun w x y hx hy => by
    rw [ht] at hx
    rw [hu] at hy
    have hx : RatA w x k p := hx
    obtain ⟨hy1, hy2⟩ := (show RatC w y q ∧ Sz q k' from hy)
    refine (refMul_a (k := k + k') (hx.le (by omega)) ((hy1.a hy2).le (by omega)) hk).mono ?_
    rintro e w' ⟨v, rfl, hv, hb⟩
    exact ⟨v, rfl, by rw [hd]; exact hv, hb⟩
theorem e_div2 (ht : κ t = .ra k p) (hu : κ u = .rc k' q) (hd : κ d = .tup (p / q)) (hk : k + k' ≤ 20000) :
    FlowStep Try.prog (Fe κ) G ⟨some d, .call ⟨.value (.func 68), #[.tmp t, .tmp u], #[24, 24]⟩, ty, pos, es, none⟩ :=
  e_c2 (fun a w => c2_68 _ _ _ _ _ _ _ _) fun w x y hx hy => by
    rw [ht] at hx
    rw [hu] at hy
    have hx : RatA w x k p := hx
    obtain ⟨hy1, hy2⟩ := (show RatC w y q ∧ Sz q k' from hy)
    refine (refDiv_a (k := k + k') (hx.le (by omega)) ((hy1.a hy2).le (by omega)) hk).mono ?_
    rintro e w' ⟨v, rfl, hv, hb⟩
    exact ⟨_, rfl, by rw [hd]; exact ⟨v, _, rfl, hv⟩, hb⟩
theorem run_ext0 (a : Act) (d : Option Tmp) (ty : TypeId) (pos : String) (es : Array Edge) (t : Tmp) (w : World) (x : Value) (ok : Bool) (h : a.tmps.getD t undef = .tuple #[x, .bool ok]) :
    Sem.run Try.prog (execOp a.eval ⟨d, .extract (.tmp t) 0, ty, pos, es, none⟩) w = .ok (.value x) w := by go_simp
theorem run_ext1 (a : Act) (d : Option Tmp) (ty : TypeId) (pos : String) (es : Array Edge) (t : Tmp) (w : World) (x : Value) (ok : Bool) (h : a.tmps.getD t undef = .tuple #[x, .bool ok]) :
    Sem.run Try.prog (execOp a.eval ⟨d, .extract (.tmp t) 1, ty, pos, es, none⟩) w = .ok (.value (.bool ok)) w := by go_simp
theorem e_ext0 (ht : κ t = .tup p) (hd : κ d = .ratC p) : FlowStep Try.prog (Fe κ) G ⟨some d, .extract (.tmp t) 0, ty, pos, es, none⟩ := by
  refine e_step rfl fun a w Q hf => ?_
  have h := hf t (by simp [Op.operands])
  rw [ht] at h
  obtain ⟨x, ok, e, hr⟩ := (show ∃ x ok, a.tmps.getD t undef = .tuple #[x, .bool ok] ∧ RatC w x p from h)
  unfold Oper.wp
  rw [run_ext0 _ _ _ _ _ _ _ x ok e, Oper.upon_value]
  exact ⟨_, rfl, Below.refl _ _, fun d' hd' => by cases hd'; rw [hd]; exact hr⟩
theorem e_ext1 (ht : κ t = .tup p) (hd : κ d = .any) : FlowStep Try.prog (Fe κ) G ⟨some d, .extract (.tmp t) 1, ty, pos, es, none⟩ := by
  refine e_step rfl fun a w Q hf => ?_
  have h := hf t (by simp [Op.operands])
  rw [ht] at h
  obtain ⟨x, ok, e, hr⟩ := (show ∃ x ok, a.tmps.getD t undef = .tuple #[x, .bool ok] ∧ RatC w x p from h)
  unfold Oper.wp
  rw [run_ext1 _ _ _ _ _ _ _ x ok e, Oper.upon_value]
  exact ⟨_, rfl, Below.refl _ _, fun d' hd' => by cases hd'; rw [hd]; trivial⟩
theorem e_add1 {n : Int} (ht : κ t = .con (.int .i64 n)) (hd : κ d = .con (.int .i64 (n + 1))) (h1 : 0 ≤ n) (h2 : n ≤ 1000) :
    FlowStep Try.prog (Fe κ) G ⟨some d, .binOp .add 3 (.tmp t) (.const (.int .i64 1)) 3, ty, pos, es, none⟩ := by
  refine e_step rfl fun a w Q hf => ?_
  have h := hf t (by simp [Op.operands])
  rw [ht] at h
  have h : a.tmps.getD t undef = .int .i64 n := h
  unfold Oper.wp
  have hw : IntKind.i64.wrap (n + 1) = n + 1 := IntWalk.i64_in _ (by omega)
  have hr : Sem.run Try.prog (execOp a.eval ⟨some d, .binOp .add 3 (.tmp t) (.const (.int .i64 1)) 3, ty, pos, es, none⟩) w = .ok (.value (.int .i64 (n + 1))) w := by go_simp
  rw [hr, Oper.upon_value]
  exact ⟨_, rfl, Below.refl _ _, fun d' hd' => by cases hd'; rw [hd]; rfl⟩
end
end Go.Proofs.Ytdpiclmjdcjajaa

/-
  The reference's walk of ratio: its loop.
-/
namespace Go.Proofs.Ytdpiclmjdcjajaa
open Go.RowKit Num

structure RtB (w : World) (n : Rat) (x0 x1 x2 : Value) (wr : World) : Prop where
  bn : BoxV wr w.heap.size w.heap.size 24 [x0, x1, x2]
  cn : RatC wr (.agg #[x0, x1, x2]) n
  bz : BoxV wr w.heap.size (w.heap.size + 1) 24 [.bool false, .slice none 0 0, .slice none 0 0]
  bel : Below w.heap.size w wr

theorem RtB.below {w wr w' : World} {n : Rat} {x0 x1 x2 : Value} (h : RtB w n x0 x1 x2 wr) (hb : Below wr.heap.size wr w') : RtB w n x0 x1 x2 w' :=
  ⟨h.bn.below hb, h.cn.below hb, h.bz.below hb, below_next' h.bel hb⟩
theorem RtB.set {w w2 : World} {n : Rat} {x0 x1 x2 x y z v0 v1 v2 : Value} {g : Nat} (h : RtB w n x0 x1 x2 w2) (hB : BoxV w2 w.heap.size g 24 [x, y, z]) (hx : NoLimb [x, y, z]) (hg : w.heap.size + 1 < g) :
    RtB w n x0 x1 x2 (((w2.setCell ⟨g, 0, none⟩ v0).setCell ⟨g, 1, none⟩ v1).setCell ⟨g, 2, none⟩ v2) := by
  have hgr := grown_set3 w2 g v0 v1 v2
  exact ⟨h.bn.kept hgr (by simp; omega), h.cn.other hB hx hgr, h.bz.kept hgr (by simp; omega), below_set3 h.bel hB.block.1 _ _ _⟩

def RtO (w : World) (g : Nat) (s : Rat) (wr : World) : Prop :=
  ∃ an ln cn ad ld cd, BoxV wr w.heap.size g 24 [.bool (decide (s.num < 0)), .slice an ln cn, .slice ad ld cd] ∧ RatC wr (.agg #[.bool (decide (s.num < 0)), .slice an ln cn, .slice ad ld cd]) s

theorem RtO.next {w w2 : World} {g : Nat} {s : Rat} {an ad : Option Addr} {ln cn ld cd : Nat} {x y z : Value} (hB : BoxV w2 w.heap.size g 24 [x, y, z]) (hx : NoLimb [x, y, z]) (h : RatC w2 (.agg #[.bool (decide (s.num < 0)), .slice an ln cn, .slice ad ld cd]) s) :
    RtO w g s (((w2.setCell ⟨g, 0, none⟩ (.bool (decide (s.num < 0)))).setCell ⟨g, 1, none⟩ (.slice an ln cn)).setCell ⟨g, 2, none⟩ (.slice ad ld cd)) :=
  ⟨an, ln, cn, ad, ld, cd, hB.store3 _ _ _, h.other hB hx (grown_set3 w2 g _ _ _)⟩

theorem late_ext {ops : Array Oper} {Q : Exit → Act → World → Prop} {j d t : Nat} {ty : TypeId} {pos : String} {es : Array Edge} {a : Act} {w : World} {p : Rat} (ho : ops[j]? = some ⟨some d, .extract (.tmp t) 1, ty, pos, es, none⟩) (hd : d < a.tmps.size)
    (ht : (Ke.tup p).holds w (a.tmps.getD t undef)) (h : ∀ a', a'.tmps.size = a.tmps.size → a'.defers = a.defers → (∀ s, s ≠ d → a'.tmps.getD s undef = a.tmps.getD s undef) → Q .normal a' w) :
    Q .normal a w ∧ wpOp Try.prog ops Q j (Q .normal) a w := by
  refine ⟨h a rfl rfl fun _ _ => rfl, ?_⟩
  obtain ⟨x, ok, e, _⟩ := (show ∃ x ok, a.tmps.getD t undef = .tuple #[x, .bool ok] ∧ RatC w x p from ht)
  unfold wpOp
  rw [ho]
  simp only [Region.wanted, if_true]
  left
  unfold Oper.wp
  rw [run_ext1 _ _ _ _ _ _ _ x ok e, Oper.upon_value]
  refine h _ (put_size _ _ _) rfl fun s hs => ?_
  rw [put_getD _ _ _ _ hd, if_neg fun e => hs e.symm]

theorem tup_set {w w2 : World} {p : Rat} {v x y z : Value} {g : Nat} (h : (Ke.tup p).holds w2 v) (hB : BoxV w2 w.heap.size g 24 [x, y, z]) (hx : NoLimb [x, y, z]) (v0 v1 v2 : Value) :
    (Ke.tup p).holds (((w2.setCell ⟨g, 0, none⟩ v0).setCell ⟨g, 1, none⟩ v1).setCell ⟨g, 2, none⟩ v2) v := by
  obtain ⟨a, ok, e, hr⟩ := (show ∃ a ok, v = .tuple #[a, .bool ok] ∧ RatC w2 a p from h)
  exact ⟨a, ok, e, hr.other hB hx (grown_set3 w2 g _ _ _)⟩

def rtA (n s : Rat) (i : Nat) : Tmp → Ke := fun t => ([.any, .any, .box 3 n, .any, .any, .box 513 s, .con (.int .i64 i), .any, .any, .any, .any, .any, .any, .ra 513 s, .ra 3 n, .con (.int .i64 i), .rc 1 (quo i 1), .rc 5 (n - quo i 1), .ratC (s * (n - quo i 1))] : List Ke).getD t .any
def rtD (s : Rat) (i : Nat) : Tmp → Ke := fun t => ([.any, .any, .any, .any, .any, .box 519 s, .con (.int .i64 i), .any, .any, .any, .any, .any, .any, .any, .any, .any, .any, .any, .any, .tup (s / quo ((i : Int) + 1) 1), .ra 519 s, .con (.int .i64 i), .con (.int .i64 ((i : Int) + 1)), .rc 1 (quo ((i : Int) + 1) 1), .tup (s / quo ((i : Int) + 1) 1), .ratC (s / quo ((i : Int) + 1) 1)] : List Ke).getD t .any

set_option maxRecDepth 100000 in
set_option maxHeartbeats 8000000 in
theorem ratio_any (n : Rat) (k : Nat) (v0 : Value) (w : World) (hk : k ≤ 64) (h0 : RatC w v0 n) (hs : Sz n 3) :
    Calls Try.prog 104 #[v0, .int .i64 k] w (RatP (rz n k) w) := by
  obtain ⟨z1, z2, z3, z4, z5, z6, rfl, _⟩ := id h0
  have hz : ∀ o, (w.alloc o).heap.size = w.heap.size + 1 := fun o => Array.size_push _
  have hb0 := below_alloc1 w (.cells #[.bool (decide (n.num < 0)), .slice z1 z2 z3, .slice z4 z5 z6] 24)
  have hBn := BoxV.new w w.heap.size 24 (Nat.le_refl _) [.bool (decide (n.num < 0)), .slice z1 z2 z3, .slice z4 z5 z6]
  have hb1 := below_alloc1 (w.alloc (.cells #[.bool (decide (n.num < 0)), .slice z1 z2 z3, .slice z4 z5 z6] 24)) (.cells #[.bool false, .slice none 0 0, .slice none 0 0] 24)
  have hBz := BoxV.new (w.alloc (.cells #[.bool (decide (n.num < 0)), .slice z1 z2 z3, .slice z4 z5 z6] 24)) w.heap.size 24 (by rw [hz]; exact Nat.le_succ _) [.bool false, .slice none 0 0, .slice none 0 0]
  rw [show (w.alloc (.cells #[.bool (decide (n.num < 0)), .slice z1 z2 z3, .slice z4 z5 z6] 24)).heap.size = w.heap.size + 1 from hz _] at hBz
  have HA := Lib.hid (show RtB w n _ _ _ _ from ⟨hBn.below hb1, (h0.below hb0).below hb1, hBz, below_next' hb0 hb1⟩)
  have HS := Lib.hid (And.intro hs (sz_rz hs))
  clear hb0 hBn hb1 hBz h0 hs hz
  go_enter Try.func104, Try.ntmps104
  go_wp2_with fail
  refine (refFromInt_any 1 _ (by omega) (by omega)).mono ?_
  rintro e w1 ⟨v, rfl, hv, hb1⟩
  rw [quo_one] at hv
  have H1 := Lib.hid (And.intro (HA.out.below hb1) hv)
  have hlt := H1.out.1.bz.block.2
  obtain ⟨y1, y2, y3, y4, y5, y6, rfl, _⟩ := hv
  clear hb1
  go_wp2
  have hb2 := below_alloc1 w1 (.cells #[.bool (decide ((1 : Rat).num < 0)), .slice y1 y2 y3, .slice y4 y5 y6] 24)
  have hB2 := BoxV.new w1 w.heap.size 24 (by omega) [.bool (decide ((1 : Rat).num < 0)), .slice y1 y2 y3, .slice y4 y5 y6]
  have HI := Lib.hid (And.intro (H1.out.1.below hb2) (show RtO w w1.heap.size (rz n 0) _ from ⟨y1, y2, y3, y4, y5, y6, hB2, H1.out.2.below hb2⟩))
  clear hb2 hB2
  go_loopw [6] (fun i wr => ∃ q : Nat, i = .int .i64 q ∧ q ≤ k ∧ RtB w n (.bool (decide (n.num < 0))) (.slice z1 z2 z3) (.slice z4 z5 z6) wr ∧ RtO w w1.heap.size (rz n q) wr) (fun i _ => k - (intOf i).toNat)
  case atStart => exact ⟨0, rfl, Nat.zero_le _, HI.out⟩
  case round =>
    obtain ⟨q, rfl, hq, hT, an, ln, cn, ad, ld, cd, hBs, hC⟩ := hrel
    have t1 := hBs.block.2
    by_cases hlt2 : q < k
    · have HL := Lib.hid hlt2
      have hsz := HS.out.2 q (by omega)
      have hsz2 : Sz (rz n q) 513 := sz_le hsz (by omega)
      have hbx := boxC_of hBs hC hsz2
      have hbn := boxC_of hT.bn hT.cn HS.out.1
      have HR := Lib.hid (And.intro hbn (And.intro hbx (And.intro hBs hT)))
      have hsq : Sz (quo (q : Int) 1) 1 := sz_nat (by omega)
      have hsq1 : Sz (quo ((q : Int) + 1) 1) 1 := sz_nat (n := q + 1) (by omega)
      have hsd := sz_sub HS.out.1 hsq
      have hsm := sz_mul hsz2 hsd
      have HZ := Lib.hid (And.intro hsq (And.intro hsq1 (And.intro hsd hsm)))
      clear hsz hsz2 hbx hbn hBs hT hC hsq hsq1 hsd hsm
      go_wp2_with fail
      refine region_flow_tail (Fe (rtA n (rz n q) q)) (by rfl) (Fe.mono _) 28 6 [] (by rfl) (by kernel_rfl) (by kernel_rfl) (by kernel_rfl) (by kernel_rfl) (fun t ht => by cases ht) [2, 5, 6] (by kernel_rfl) ?g0 (Fe.draw _) ?gs ?gf
      case g0 =>
        intro t ht
        simp only [List.mem_cons, List.not_mem_nil, or_false] at ht
        rcases ht with rfl | rfl | rfl
        · exact HR.out.1
        · exact HR.out.2.1
        · rfl
      case gs =>
        exact ⟨flowN_of (e_loadC rfl rfl) (by decide), flowN_of (e_loadC rfl rfl) (by decide), flowN_of (e_move rfl) (by decide), flowN_of (e_fromI rfl rfl (by omega) (by omega) HZ.out.1) (by decide), flowN_of (e_sub2 rfl rfl rfl HZ.out.2.2.1 (by omega)) (by decide), flowN_of (e_mul2 rfl rfl rfl (by omega)) (by decide), trivial⟩
      intro a3 w3 hb3 hsz3 hdf3 hfacts hout _
      have f18 : RatC w3 (a3.tmps.getD 18 undef) (rz n q * (n - quo q 1)) := hfacts 5 18 (by decide) rfl
      have e0 : a3.tmps.getD 0 undef = .agg #[.bool (decide (n.num < 0)), .slice z1 z2 z3, .slice z4 z5 z6] := hout 0 (free_of (by kernel_rfl))
      have e1 : a3.tmps.getD 1 undef = .int .i64 k := hout 1 (free_of (by kernel_rfl))
      have e2 : a3.tmps.getD 2 undef = .pointer (some ⟨w.heap.size, 0, none⟩) := hout 2 (free_of (by kernel_rfl))
      have e3 : a3.tmps.getD 3 undef = undef := hout 3 (free_of (by kernel_rfl))
      have e4 : a3.tmps.getD 4 undef = .pointer (some ⟨w.heap.size + 1, 0, none⟩) := hout 4 (free_of (by kernel_rfl))
      have e5 : a3.tmps.getD 5 undef = .pointer (some ⟨w1.heap.size, 0, none⟩) := hout 5 (free_of (by kernel_rfl))
      have e6 : a3.tmps.getD 6 undef = .int .i64 q := hout 6 (free_of (by kernel_rfl))
      have e7 : a3.tmps.getD 7 undef = .agg #[.bool false, .slice y1 y2 y3, .slice y4 y5 y6] := hout 7 (free_of (by kernel_rfl))
      have e27 : a3.tmps.getD 27 undef = undef := hout 27 (free_of (by kernel_rfl))
      have hszn : a3.tmps.size = 28 := hsz3
      have hdfn : a3.defers = [] := hdf3
      have hB3 := HR.out.2.2.1.below hb3
      change runFrom _ _ _ 1 6 a3 w3
      simp only [runFrom]
      refine e_store (t := 5) (u := 18) rfl e5 hB3 f18 fun an' ln' cn' ad' ld' cd' hR => ?_
      have HN := Lib.hid (And.intro ((HR.out.2.2.2.below hb3).set (v0 := .bool (decide ((rz n q * (n - quo q 1)).num < 0))) (v1 := .slice an' ln' cn') (v2 := .slice ad' ld' cd') hB3 (noLimb_rat _ _ _ _ _ _ _) hlt) (RtO.next hB3 (noLimb_rat _ _ _ _ _ _ _) hR))
      generalize (((w3.setCell ⟨w1.heap.size, 0, none⟩ (.bool (decide ((rz n q * (n - quo q 1)).num < 0)))).setCell ⟨w1.heap.size, 1, none⟩ (.slice an' ln' cn')).setCell ⟨w1.heap.size, 2, none⟩ (.slice ad' ld' cd')) = w4 at HN ⊢
      obtain ⟨uu, hu⟩ : ∃ u : Nat → Value, ∀ t, a3.tmps.getD t undef = u t := ⟨_, fun _ => rfl⟩
      have ha := act_eq a3 28 hszn hdfn
      simp only [hu] at ha e0 e1 e2 e3 e4 e5 e6 e7 e27
      have ha' : a3 = ⟨#[uu 0, uu 1, uu 2, uu 3, uu 4, uu 5, uu 6, uu 7, uu 8, uu 9, uu 10, uu 11, uu 12, uu 13, uu 14, uu 15, uu 16, uu 17, uu 18, uu 19, uu 20, uu 21, uu 22, uu 23, uu 24, uu 25, uu 26, uu 27], []⟩ := ha
      rw [e0, e1, e2, e3, e4, e5, e6, e7, e27] at ha'
      clear ha hu e0 e1 e2 e3 e4 e5 e6 e7 e27 hfacts hout hszn hdfn hsz3 hdf3 f18 hB3 hR hb3 t1
      subst ha'
      obtain ⟨hT, an, ln, cn, ad, ld, cd, hBs, hC⟩ := id HN.out
      have hbx := boxC_of hBs hC HZ.out.2.2.2
      have HX := Lib.hid (And.intro hbx (And.intro hBs hT))
      clear hbx hBs hT hC
      go_wp2_with fail
      refine region_flow_late (Fe (rtD (rz n q * (n - quo q 1)) q)) (by rfl) (Fe.mono _) 28 8 7 (by rfl) (by kernel_rfl) (by kernel_rfl) (by kernel_rfl) [5, 6] (by kernel_rfl) ?k0 (Fe.draw _) ?ks ?kf
      case k0 =>
        intro t ht
        simp only [List.mem_cons, List.not_mem_nil, or_false] at ht
        rcases ht with rfl | rfl
        · exact HX.out.1
        · rfl
      case ks =>
        exact ⟨e_loadC rfl rfl, e_move rfl, e_add1 rfl rfl (by omega) (by omega), e_fromI rfl rfl (by omega) (by omega) HZ.out.2.1, e_div2 rfl rfl rfl (by omega), e_move rfl, e_ext0 rfl rfl, e_ext1 (p := rz n q * (n - quo q 1) / quo ((q : Int) + 1) 1) rfl rfl, trivial⟩
      intro a5 w5 hb5 hsz5 hdf5 hfacts hout
      have f25 : RatC w5 (a5.tmps.getD 25 undef) (rz n (q + 1)) := hfacts 6 25 (by decide) rfl
      have f19 : (Ke.tup (rz n (q + 1))).holds w5 (a5.tmps.getD 19 undef) := hfacts 5 19 (by decide) rfl
      have g0 : a5.tmps.getD 0 undef = .agg #[.bool (decide (n.num < 0)), .slice z1 z2 z3, .slice z4 z5 z6] := hout 0 (free_of (by kernel_rfl))
      have g1 : a5.tmps.getD 1 undef = .int .i64 k := hout 1 (free_of (by kernel_rfl))
      have g2 : a5.tmps.getD 2 undef = .pointer (some ⟨w.heap.size, 0, none⟩) := hout 2 (free_of (by kernel_rfl))
      have g3 : a5.tmps.getD 3 undef = undef := hout 3 (free_of (by kernel_rfl))
      have g4 : a5.tmps.getD 4 undef = .pointer (some ⟨w.heap.size + 1, 0, none⟩) := hout 4 (free_of (by kernel_rfl))
      have g5 : a5.tmps.getD 5 undef = .pointer (some ⟨w1.heap.size, 0, none⟩) := hout 5 (free_of (by kernel_rfl))
      have g6 : a5.tmps.getD 6 undef = .int .i64 q := hout 6 (free_of (by kernel_rfl))
      have g7 : a5.tmps.getD 7 undef = .agg #[.bool false, .slice y1 y2 y3, .slice y4 y5 y6] := hout 7 (free_of (by kernel_rfl))
      have g27 : a5.tmps.getD 27 undef = undef := hout 27 (free_of (by kernel_rfl))
      have hB5 := HX.out.2.1.below hb5
      refine e_store (t := 5) (u := 25) rfl g5 hB5 f25 fun an' ln' cn' ad' ld' cd' hR => ?_
      have HM := Lib.hid (And.intro ((HX.out.2.2.below hb5).set (v0 := .bool (decide ((rz n (q + 1)).num < 0))) (v1 := .slice an' ln' cn') (v2 := .slice ad' ld' cd') hB5 (noLimb_rat _ _ _ _ _ _ _) hlt) (RtO.next hB5 (noLimb_rat _ _ _ _ _ _ _) hR))
      have HT := Lib.hid (tup_set f19 hB5 (noLimb_rat _ _ _ _ _ _ _) (.bool (decide ((rz n (q + 1)).num < 0))) (.slice an' ln' cn') (.slice ad' ld' cd'))
      generalize (((w5.setCell ⟨w1.heap.size, 0, none⟩ (.bool (decide ((rz n (q + 1)).num < 0)))).setCell ⟨w1.heap.size, 1, none⟩ (.slice an' ln' cn')).setCell ⟨w1.heap.size, 2, none⟩ (.slice ad' ld' cd')) = w6 at HM HT ⊢
      refine late_ext (t := 19) (d := 26) (p := rz n (q + 1)) rfl (by rw [hsz5]; exact (by decide : 26 < 28)) HT.out fun a6 hsz6 hdf6 hk6 => ?_
      have hszn : a6.tmps.size = 28 := hsz6.trans hsz5
      have hdfn : a6.defers = [] := hdf6.trans hdf5
      have f0 : a6.tmps.getD 0 undef = .agg #[.bool (decide (n.num < 0)), .slice z1 z2 z3, .slice z4 z5 z6] := (hk6 0 (by decide)).trans g0
      have f1 : a6.tmps.getD 1 undef = .int .i64 k := (hk6 1 (by decide)).trans g1
      have f2 : a6.tmps.getD 2 undef = .pointer (some ⟨w.heap.size, 0, none⟩) := (hk6 2 (by decide)).trans g2
      have f3 : a6.tmps.getD 3 undef = undef := (hk6 3 (by decide)).trans g3
      have f4 : a6.tmps.getD 4 undef = .pointer (some ⟨w.heap.size + 1, 0, none⟩) := (hk6 4 (by decide)).trans g4
      have f5 : a6.tmps.getD 5 undef = .pointer (some ⟨w1.heap.size, 0, none⟩) := (hk6 5 (by decide)).trans g5
      have f6 : a6.tmps.getD 6 undef = .int .i64 q := (hk6 6 (by decide)).trans g6
      have f7 : a6.tmps.getD 7 undef = .agg #[.bool false, .slice y1 y2 y3, .slice y4 y5 y6] := (hk6 7 (by decide)).trans g7
      have f27 : a6.tmps.getD 27 undef = undef := (hk6 27 (by decide)).trans g27
      obtain ⟨vv, hv2⟩ : ∃ u : Nat → Value, ∀ t, a6.tmps.getD t undef = u t := ⟨_, fun _ => rfl⟩
      have ha := act_eq a6 28 hszn hdfn
      simp only [hv2] at ha f0 f1 f2 f3 f4 f5 f6 f7 f27
      have ha' : a6 = ⟨#[vv 0, vv 1, vv 2, vv 3, vv 4, vv 5, vv 6, vv 7, vv 8, vv 9, vv 10, vv 11, vv 12, vv 13, vv 14, vv 15, vv 16, vv 17, vv 18, vv 19, vv 20, vv 21, vv 22, vv 23, vv 24, vv 25, vv 26, vv 27], []⟩ := ha
      rw [f0, f1, f2, f3, f4, f5, f6, f7, f27] at ha'
      clear ha hv2 f0 f1 f2 f3 f4 f5 f6 f7 f27 g0 g1 g2 g3 g4 g5 g6 g7 g27 hfacts hout hszn hdfn hsz6 hdf6 hk6 hsz5 hdf5 f25 f19 HT hB5 hR hb5
      subst ha'
      go_wp2
      go_round
      case rel => exact ⟨q + 1, by go_num, by have := HL.out; omega, HM.out⟩
      case measure => have := HL.out; simp [intOf]; omega
    · obtain ⟨⟨k0, k1, k2⟩, i0, i1, i2⟩ := hBs.three
      obtain ⟨⟨x0, x1, x2⟩, j0, j1, j2⟩ := hT.bz.three
      have HF := Lib.hid (And.intro hT hC)
      have hqn : q = k := by omega
      subst hqn
      clear hT hC hBs hlt2
      go_wp2
      obtain ⟨⟨x0, x1, x2⟩, _⟩ := (HF.out.1.bz.store3 (.bool (decide ((rz n q).num < 0))) (.slice an ln cn) (.slice ad ld cd)).three
      exact bodyPost_ret (v := .agg #[.bool (decide ((rz n q).num < 0)), .slice an ln cn, .slice ad ld cd]) (by simp [results, Try.results104, go_sem, x0, x1, x2]) rfl ⟨_, rfl, HF.out.2.other HF.out.1.bz noLimb_nil3 (grown_set3 _ _ _ _ _), below_set3 HF.out.1.bel HF.out.1.bz.block.1 _ _ _⟩

end Go.Proofs.Ytdpiclmjdcjajaa

/-
  The reference's Over and Choose.
-/
namespace Go.Proofs.Ytdpiclmjdcjajaa
open Go.RowKit Num

theorem rtB_new {w : World} {n : Rat} {z1 z4 : Option Addr} {z2 z3 z5 z6 : Nat} (h0 : RatC w (.agg #[.bool (decide (n.num < 0)), .slice z1 z2 z3, .slice z4 z5 z6]) n) :
    RtB w n (.bool (decide (n.num < 0))) (.slice z1 z2 z3) (.slice z4 z5 z6) ((w.alloc (.cells #[.bool (decide (n.num < 0)), .slice z1 z2 z3, .slice z4 z5 z6] 24)).alloc (.cells #[.bool false, .slice none 0 0, .slice none 0 0] 24)) := by
  have hz : ∀ o, (w.alloc o).heap.size = w.heap.size + 1 := fun o => Array.size_push _
  have hb0 := below_alloc1 w (.cells #[.bool (decide (n.num < 0)), .slice z1 z2 z3, .slice z4 z5 z6] 24)
  have hBn := BoxV.new w w.heap.size 24 (Nat.le_refl _) [.bool (decide (n.num < 0)), .slice z1 z2 z3, .slice z4 z5 z6]
  have hb1 := below_alloc1 (w.alloc (.cells #[.bool (decide (n.num < 0)), .slice z1 z2 z3, .slice z4 z5 z6] 24)) (.cells #[.bool false, .slice none 0 0, .slice none 0 0] 24)
  have hBz := BoxV.new (w.alloc (.cells #[.bool (decide (n.num < 0)), .slice z1 z2 z3, .slice z4 z5 z6] 24)) w.heap.size 24 (by rw [hz]; exact Nat.le_succ _) [.bool false, .slice none 0 0, .slice none 0 0]
  rw [show (w.alloc (.cells #[.bool (decide (n.num < 0)), .slice z1 z2 z3, .slice z4 z5 z6] 24)).heap.size = w.heap.size + 1 from hz _] at hBz
  exact ⟨hBn.below hb1, (h0.below hb0).below hb1, hBz, below_next' hb0 hb1⟩

theorem sz_zero3 : Sz (0 : Rat) 3 := sz_le (a := 1) (by have := sz_nat (n := 0) (by decide); exact quo_zero ▸ this) (by decide)

set_option maxRecDepth 100000 in
set_option maxHeartbeats 4000000 in
theorem over_any (n : Rat) (k : Nat) (v0 : Value) (w : World) (hk : k ≤ 64) (h0 : RatC w v0 n) (hs : Sz n 3) :
    Calls Try.prog 59 #[v0, .int .i64 k] w (RatP (rz (if n < 0 then 0 else n) k) w) := by
  obtain ⟨z1, z2, z3, z4, z5, z6, rfl, _⟩ := id h0
  have HA := Lib.hid (rtB_new h0)
  have HS := Lib.hid hs
  obtain ⟨r, hr⟩ : ∃ r, (if n < 0 then 0 else n) = r := ⟨_, rfl⟩
  rw [hr]
  have HC := Lib.hid hr
  clear h0 hs hr
  go_enter Try.func59, Try.ntmps59
  go_wp2_with fail
  refine (refSign_a (k := 3) (HA.out.cn.a HS.out) (by omega)).mono ?_
  rintro e w1 ⟨rfl, hb1⟩
  have H1 := Lib.hid (HA.out.below hb1)
  obtain ⟨⟨k0, k1, k2⟩, i0, i1, i2⟩ := H1.out.bn.three
  clear hb1
  by_cases hneg : n < 0
  · have hsg : sgn n = -1 := by
      rw [sgn_cmp0]
      have h1 := cmp_lt.2 hneg
      have h2 := cmp_range n 0
      omega
    obtain rfl : 0 = r := by have := HC.out; rw [if_pos hneg] at this; exact this
    rw [hsg]
    clear hsg hneg HC
    go_wp2_with fail
    refine (refFromInt_any 0 _ (by omega) (by omega)).mono ?_
    rintro e w2 ⟨v, rfl, hv, hb2⟩
    rw [quo_zero] at hv
    have hT := H1.out.below hb2
    clear k0 k1 k2 i0 i1 i2 hb2
    obtain ⟨⟨k0, k1, k2⟩, i0, i1, i2⟩ := hT.bn.three
    have H2 := Lib.hid (And.intro hT hv)
    obtain ⟨y1, y2, y3, y4, y5, y6, rfl, _⟩ := hv
    have hgr := grown_set3 w2 w.heap.size (.bool (decide ((0 : Rat).num < 0))) (.slice y1 y2 y3) (.slice y4 y5 y6)
    have hz := hT.bz.kept hgr (by simp)
    have hc := H2.out.2.other hT.bn (noLimb_rat _ _ _ _ _ _ _) hgr
    have hbl := below_set3 hT.bel hT.bn.block.1 (.bool (decide ((0 : Rat).num < 0))) (.slice y1 y2 y3) (.slice y4 y5 y6)
    have H3 := Lib.hid (And.intro hz (And.intro hc hbl))
    clear hT hgr hz hc hbl
    go_wp2_with fail
    refine (ratio_any 0 k _ _ hk H3.out.2.1 sz_zero3).mono ?_
    rintro e w4 ⟨v, rfl, hv, hb4⟩
    have hB5 := H3.out.1.below hb4
    have hbb := below_next' H3.out.2.2 hb4
    have HV := Lib.hid hv
    obtain ⟨zn, zl, zc, en, el, ec, rfl, _⟩ := hv
    clear k0 k1 k2 i0 i1 i2
    obtain ⟨⟨x0, x1, x2⟩, j0, j1, j2⟩ := hB5.three
    have HF := Lib.hid (And.intro hbb hB5)
    clear hB5 hbb hb4
    go_wp2
    obtain ⟨⟨x0, x1, x2⟩, _⟩ := (HF.out.2.store3 (.bool (decide ((rz 0 k).num < 0))) (.slice zn zl zc) (.slice en el ec)).three
    exact bodyPost_ret (v := .agg #[.bool (decide ((rz 0 k).num < 0)), .slice zn zl zc, .slice en el ec]) (by simp [results, Try.results59, go_sem, x0, x1, x2]) rfl ⟨_, rfl, HV.out.other HF.out.2 noLimb_nil3 (grown_set3 _ _ _ _ _), below_set3 HF.out.1 HF.out.2.block.1 _ _ _⟩
  · obtain ⟨z, hz⟩ : ∃ z, sgn n = z := ⟨_, rfl⟩
    have hz0 : 0 ≤ z := by
      rw [← hz, sgn_cmp0]
      have h1 : ¬ cmpQ n 0 < 0 := fun h => hneg (cmp_lt.1 h)
      omega
    obtain rfl : n = r := by have := HC.out; rw [if_neg hneg] at this; exact this
    rw [hz]
    clear hneg hz HC
    go_wp2_with fail
    refine (ratio_any n k _ _ hk H1.out.cn HS.out).mono ?_
    rintro e w4 ⟨v, rfl, hv, hb4⟩
    have hB5 := H1.out.bz.below hb4
    have hbb := below_next' H1.out.bel hb4
    have HV := Lib.hid hv
    obtain ⟨zn, zl, zc, en, el, ec, rfl, _⟩ := hv
    clear k0 k1 k2 i0 i1 i2
    obtain ⟨⟨x0, x1, x2⟩, j0, j1, j2⟩ := hB5.three
    have HF := Lib.hid (And.intro hbb hB5)
    clear hB5 hbb hb4
    go_wp2
    obtain ⟨⟨x0, x1, x2⟩, _⟩ := (HF.out.2.store3 (.bool (decide ((rz n k).num < 0))) (.slice zn zl zc) (.slice en el ec)).three
    exact bodyPost_ret (v := .agg #[.bool (decide ((rz n k).num < 0)), .slice zn zl zc, .slice en el ec]) (by simp [results, Try.results59, go_sem, x0, x1, x2]) rfl ⟨_, rfl, HV.out.other HF.out.2 noLimb_nil3 (grown_set3 _ _ _ _ _), below_set3 HF.out.1 HF.out.2.block.1 _ _ _⟩

end Go.Proofs.Ytdpiclmjdcjajaa

/-
  The reference's Choose.
-/
namespace Go.Proofs.Ytdpiclmjdcjajaa
open Go.RowKit Num

/-- A number and whether it is there. -/
def OkP (q : Rat) (b : Bool) (w : World) (e : Ending) (w' : World) : Prop := ∃ v, e = .returned (.tuple #[v, .bool b]) ∧ RatC w' v q ∧ Below w.heap.size w w'

theorem sz_int {n : Int} (h1 : -9223372036854775808 ≤ n) (h2 : n ≤ 9223372036854775807) : Sz (quo n 1) 3 := by
  by_cases h : n < 0
  · rw [← refquo_neg h]
    exact sz_rat (k := 3) (Nat.lt_of_lt_of_le (by omega : n.natAbs < 1000000000000000000000000000) (by decide)) (by decide) (by omega)
  · rw [← refquo_pos h]
    exact sz_rat (k := 3) (Nat.lt_of_lt_of_le (by omega : n.natAbs < 1000000000000000000000000000) (by decide)) (by decide) (by omega)

theorem quo_lt {n : Int} : quo n 1 < 0 ↔ n < 0 := by
  rw [quo_mk (by omega), show mkRat n (Int.natAbs 1) = (n : Rat) from Rat.mkRat_one n]
  exact Rat.intCast_neg_iff

/-- What both functions return. -/
def chQ (n : Int) (k : Nat) : Rat := rz (quo (if n < 0 then 0 else n) 1) k

end Go.Proofs.Ytdpiclmjdcjajaa

/-
  The steps of the program's chooses.
-/
namespace Go.Proofs.Ytdpiclmjdcjajaa
open Go.RowKit Num

theorem run_make32 (k : Nat) (w : World) (h1 : k ≤ 65) :
    (Instr.makeSlice 32 (Value.int IntKind.i64 (k : Int)) (Value.int IntKind.i64 (k : Int))).run Try.prog w = .ok (.slice (some ⟨w.heap.size, 0, none⟩) k k) (w.alloc (.cells (madeCells #[.bool false, .slice none 0 0, .slice none 0 0] (k * 3)) 24)) := by
  have hinfo : (Try.prog.info? 24).map (fun i => (i.zero, i.size, i.bytes)) = some (some (.agg #[.bool false, .slice none 0 0, .slice none 0 0]), 3, 56) := by kernel_rfl
  obtain ⟨i, hi, hzz⟩ := Option.map_eq_some_iff.1 hinfo
  simp only [Prod.mk.injEq] at hzz
  obtain ⟨hz, hs, hb⟩ := hzz
  have hr := run_make (P := Try.prog) w 32 24 i _ (by kernel_rfl) hi hz .i64 .i64 k k (by omega) (Int.le_refl _) (by rw [hb]; omega) (by omega)
  simp only [Int.toNat_natCast, hs] at hr
  exact hr

theorem noLimb_made (n : Nat) : NoLimb (madeCells #[.bool false, .slice none 0 0, .slice none 0 0] n).toList := by
  intro x hx m
  unfold madeCells at hx
  simp only [Array.toList_map, List.mem_map] at hx
  obtain ⟨i, _, rfl⟩ := hx
  have h : i % 3 = 0 ∨ i % 3 = 1 ∨ i % 3 = 2 := by omega
  have e : (#[Value.bool false, .slice none 0 0, .slice none 0 0] : Array Value).size = 3 := rfl
  rw [e]
  rcases h with h | h | h <;> rw [h] <;> simp

/-- A list of numbers that the call itself made: the first q are known. -/
def LstI (B g k : Nat) (f : Nat → Rat) (q : Nat) (wr : World) : Prop :=
  ∃ xs : List Value, BoxV wr B g 24 xs ∧ xs.length = k * 3 ∧ NoLimb xs ∧ ∀ j, j < q → ∃ x y z, xs[j * 3]? = some x ∧ xs[j * 3 + 1]? = some y ∧ xs[j * 3 + 2]? = some z ∧ RatC wr (.agg #[x, y, z]) (f j)

theorem LstI.below {B g k q : Nat} {f : Nat → Rat} {wr w' : World} (h : LstI B g k f q wr) (hb : Below wr.heap.size wr w') : LstI B g k f q w' := by
  obtain ⟨xs, h1, h2, h3, h4⟩ := h
  refine ⟨xs, h1.below hb, h2, h3, fun j hj => ?_⟩
  obtain ⟨x, y, z, a, b, c, hr⟩ := h4 j hj
  exact ⟨x, y, z, a, b, c, hr.below hb⟩

theorem LstI.new (w : World) (B k : Nat) (f : Nat → Rat) (hB : B ≤ w.heap.size) : LstI B w.heap.size k f 0 (w.alloc (.cells (madeCells #[.bool false, .slice none 0 0, .slice none 0 0] (k * 3)) 24)) := by
  refine ⟨(madeCells #[.bool false, .slice none 0 0, .slice none 0 0] (k * 3)).toList, ?_, by rw [Array.length_toList, size_madeCells], noLimb_made _, fun j hj => by omega⟩
  exact BoxV.new w B 24 hB _

/-- A store to another block. -/
theorem LstI.other {B g k q : Nat} {f : Nat → Rat} {w2 : World} {g2 : Nat} {x y z v0 v1 v2 : Value} (h : LstI B g k f q w2) (hB : BoxV w2 B g2 24 [x, y, z]) (hx : NoLimb [x, y, z]) (hg : g ≠ g2) :
    LstI B g k f q (((w2.setCell ⟨g2, 0, none⟩ v0).setCell ⟨g2, 1, none⟩ v1).setCell ⟨g2, 2, none⟩ v2) := by
  obtain ⟨xs, h1, h2, h3, h4⟩ := h
  have hgr := grown_set3 w2 g2 v0 v1 v2
  refine ⟨xs, h1.kept hgr (by simpa using hg), h2, h3, fun j hj => ?_⟩
  obtain ⟨a, b, c, e1, e2, e3, hr⟩ := h4 j hj
  exact ⟨a, b, c, e1, e2, e3, hr.other hB hx hgr⟩

theorem boxV_set {w : World} {B g : Nat} {xs : List Value} (h : BoxV w B g 24 xs) (j : Nat) (v : Value) : BoxV (w.setCell ⟨g, j, none⟩ v) B g 24 (xs.set j v) := by
  have := (World.ownsRow.stored h j v).1
  unfold BoxV
  rw [List.length_set]
  exact this

/-- The next element is stored. -/
theorem LstI.store {B g k q : Nat} {f : Nat → Rat} {w2 : World} {b : Bool} {a a' : Option Addr} {n c n' c' : Nat} (h : LstI B g k f q w2) (hq : q < k) (hr : RatC w2 (.agg #[.bool b, .slice a n c, .slice a' n' c']) (f q)) :
    LstI B g k f (q + 1) (((w2.setCell ⟨g, q * 3, none⟩ (.bool b)).setCell ⟨g, q * 3 + 1, none⟩ (.slice a n c)).setCell ⟨g, q * 3 + 2, none⟩ (.slice a' n' c')) := by
  obtain ⟨xs, h1, h2, h3, h4⟩ := h
  have hgr : w2.grownBy (((w2.setCell ⟨g, q * 3, none⟩ (.bool b)).setCell ⟨g, q * 3 + 1, none⟩ (.slice a n c)).setCell ⟨g, q * 3 + 2, none⟩ (.slice a' n' c')) (some g) :=
    grown_setCell (grown_setCell (grown_setCell (World.grownBy.refl _ _) _) _) _
  refine ⟨((xs.set (q * 3) (.bool b)).set (q * 3 + 1) (.slice a n c)).set (q * 3 + 2) (.slice a' n' c'), boxV_set (boxV_set (boxV_set h1 _ _) _ _) _ _, by simpa using h2, ?_, fun j hj => ?_⟩
  · intro x hx m
    rcases List.mem_or_eq_of_mem_set hx with hx | rfl
    · rcases List.mem_or_eq_of_mem_set hx with hx | rfl
      · rcases List.mem_or_eq_of_mem_set hx with hx | rfl
        · exact h3 x hx m
        · simp
      · simp
    · simp
  · by_cases hjq : j = q
    · subst hjq
      refine ⟨_, _, _, ?_, ?_, ?_, hr.other h1 h3 hgr⟩
      · simp [List.getElem?_set]; omega
      · simp [List.getElem?_set]; omega
      · simp [List.getElem?_set]; omega
    · obtain ⟨x, y, z, e1, e2, e3, hx⟩ := h4 j (by omega)
      refine ⟨x, y, z, ?_, ?_, ?_, hx.other h1 h3 hgr⟩
      · rw [List.getElem?_set_ne (by omega), List.getElem?_set_ne (by omega), List.getElem?_set_ne (by omega)]; exact e1
      · rw [List.getElem?_set_ne (by omega), List.getElem?_set_ne (by omega), List.getElem?_set_ne (by omega)]; exact e2
      · rw [List.getElem?_set_ne (by omega), List.getElem?_set_ne (by omega), List.getElem?_set_ne (by omega)]; exact e3

theorem quo_sub (a b : Int) : quo a 1 - quo b 1 = quo (a - b) 1 := by
  have e : ∀ x : Int, quo x 1 = (x : Rat) := fun x => by rw [quo_mk (by omega), show mkRat x (Int.natAbs 1) = (x : Rat) from Rat.mkRat_one x]
  rw [e, e, e, Rat.intCast_sub]

theorem rz_next (n : Int) (i : Nat) : rz (quo n 1) i * quo (n - i) ((i : Int) + 1) = rz (quo n 1) (i + 1) := by
  show _ = rz (quo n 1) i * (quo n 1 - quo i 1) / quo ((i : Int) + 1) 1
  rw [quo_sub, ← quo_div (n - i) ((i : Int) + 1), Rat.div_def, Rat.div_def, Rat.mul_assoc]

theorem c2_56 (a : Act) (d : Option Tmp) (ty : TypeId) (pos : String) (es : Array Edge) (t u : Tmp) (w : World) :
    Sem.run Try.prog (execOp a.eval ⟨d, .call ⟨.value (.func 56), #[.tmp t, .tmp u], #[2, 2]⟩, ty, pos, es, none⟩) w = .ok (.enter 56 #[a.tmps.getD t undef, a.tmps.getD u undef]) w := by go_simp
theorem c2_73b (a : Act) (d : Option Tmp) (ty : TypeId) (pos : String) (es : Array Edge) (t u : Tmp) (w : World) :
    Sem.run Try.prog (execOp a.eval ⟨d, .call ⟨.value (.func 73), #[.tmp t, .tmp u], #[24, 24]⟩, ty, pos, es, none⟩) w = .ok (.enter 73 #[a.tmps.getD t undef, a.tmps.getD u undef]) w := by go_simp

section
variable {κ : Tmp → Ke} {G : Nat → Option Tmp} {d s t u c : Tmp} {ty : TypeId} {pos : String} {es : Array Edge} {k k' : Nat} {p q : Rat}
theorem e_mul73 (ht : κ t = .ra k p) (hu : κ u = .rc k' q) (hd : κ d = .ratC (p * q)) (hk : k + k' ≤ 20000) :
    FlowStep Try.prog (Fe κ) G ⟨some d, .call ⟨.value (.func 73), #[.tmp t, .tmp u], #[24, 24]⟩, ty, pos, es, none⟩ :=
  e_c2 (fun a w => c2_73b _ _ _ _ _ _ _ _) fun w x y hx hy => by
    rw [ht] at hx
    rw [hu] at hy
    have hx : RatA w x k p := hx
    obtain ⟨hy1, hy2⟩ := (show RatC w y q ∧ Sz q k' from hy)
    refine (mul_a (k := k + k') (hx.le (by omega)) ((hy1.a hy2).le (by omega)) hk).mono ?_
    rintro e w' ⟨v, rfl, hv, hb⟩
    exact ⟨v, rfl, by rw [hd]; exact hv, hb⟩
theorem e_small {a b : Int} (ht : κ t = .con (.int .i64 a)) (hu : κ u = .con (.int .i64 b)) (hd : κ d = .rc k (quo a b)) (a1 : -9223372036854775808 ≤ a) (a2 : a ≤ 9223372036854775807) (b1 : -9223372036854775808 ≤ b) (b2 : b ≤ 9223372036854775807) (hs : Sz (quo a b) k) :
    FlowStep Try.prog (Fe κ) G ⟨some d, .call ⟨.value (.func 56), #[.tmp t, .tmp u], #[2, 2]⟩, ty, pos, es, none⟩ := by
  refine e_step rfl fun ac w Q hf => ?_
  have h := hf t (by simp [Op.operands, Call.operands])
  have h' := hf u (by simp [Op.operands, Call.operands])
  rw [ht] at h
  rw [hu] at h'
  have h : ac.tmps.getD t undef = .int .i64 a := h
  have h' : ac.tmps.getD u undef = .int .i64 b := h'
  unfold Oper.wp
  rw [c2_56, h, h', Oper.upon_enter]
  refine (small_any a b w a1 a2 b1 b2).mono ?_
  rintro e w' ⟨v, rfl, hv, hb⟩
  exact ⟨v, rfl, hb, fun d' hd' => by cases hd'; rw [hd]; exact ⟨hv, hs⟩⟩
theorem e_isub {n m : Int} (ht : κ t = .con (.int .i64 n)) (hu : κ u = .con (.int .i64 m)) (hd : κ d = .con (.int .i64 (n - m))) (h1 : -9223372036854775808 ≤ n - m) (h2 : n - m ≤ 9223372036854775807) :
    FlowStep Try.prog (Fe κ) G ⟨some d, .binOp .sub 2 (.tmp t) (.tmp u) 2, ty, pos, es, none⟩ := by
  refine e_step rfl fun a w Q hf => ?_
  have h := hf t (by simp [Op.operands])
  have h' := hf u (by simp [Op.operands])
  rw [ht] at h
  rw [hu] at h'
  have h : a.tmps.getD t undef = .int .i64 n := h
  have h' : a.tmps.getD u undef = .int .i64 m := h'
  unfold Oper.wp
  have hw : IntKind.i64.wrap (n - m) = n - m := IntWalk.i64_in _ (by omega)
  have hr : Sem.run Try.prog (execOp a.eval ⟨some d, .binOp .sub 2 (.tmp t) (.tmp u) 2, ty, pos, es, none⟩) w = .ok (.value (.int .i64 (n - m))) w := by go_simp
  rw [hr, Oper.upon_value]
  exact ⟨_, rfl, Below.refl _ _, fun d' hd' => by cases hd'; rw [hd]; rfl⟩
theorem e_iadd1 {n : Int} (ht : κ t = .con (.int .i64 n)) (hd : κ d = .con (.int .i64 (n + 1))) (h1 : 0 ≤ n) (h2 : n ≤ 1000) :
    FlowStep Try.prog (Fe κ) G ⟨some d, .binOp .add 2 (.tmp t) (.const (.int .i64 1)) 2, ty, pos, es, none⟩ := by
  refine e_step rfl fun a w Q hf => ?_
  have h := hf t (by simp [Op.operands])
  rw [ht] at h
  have h : a.tmps.getD t undef = .int .i64 n := h
  unfold Oper.wp
  have hw : IntKind.i64.wrap (n + 1) = n + 1 := IntWalk.i64_in _ (by omega)
  have hr : Sem.run Try.prog (execOp a.eval ⟨some d, .binOp .add 2 (.tmp t) (.const (.int .i64 1)) 2, ty, pos, es, none⟩) w = .ok (.value (.int .i64 (n + 1))) w := by go_simp
  rw [hr, Oper.upon_value]
  exact ⟨_, rfl, Below.refl _ _, fun d' hd' => by cases hd'; rw [hd]; rfl⟩
end
end Go.Proofs.Ytdpiclmjdcjajaa

/-
  The program's chooses.
-/
namespace Go.Proofs.Ytdpiclmjdcjajaa
open Go.RowKit Num

def ListP (k : Nat) (f : Nat → Rat) (w : World) (e : Ending) (w' : World) : Prop := ∃ g, e = .returned (.slice (some ⟨g, 0, none⟩) k k) ∧ LstI w.heap.size g k f k w' ∧ Below w.heap.size w w'

def chA (n : Int) (s : Rat) (i : Nat) : Tmp → Ke := fun t => ([.con (.int .i64 n), .any, .any, .any, .any, .any, .box 521 s, .con (.int .i64 i), .any, .any, .any, .any, .any, .any, .any, .any, .any, .any, .any, .ra 521 s, .con (.int .i64 n), .con (.int .i64 i), .con (.int .i64 (n - i)), .con (.int .i64 i), .con (.int .i64 ((i : Int) + 1)), .rc 7 (quo (n - i) ((i : Int) + 1)), .ratC (s * quo (n - i) ((i : Int) + 1))] : List Ke).getD t .any

set_option maxRecDepth 100000 in
set_option maxHeartbeats 8000000 in
theorem chooses_any (n : Int) (k : Nat) (w : World) (hk0 : 1 ≤ k) (hk : k ≤ 65) (hn0 : 0 ≤ n) (hn1 : n ≤ 9223372036854775807) :
    Calls Try.prog 58 #[.int .i64 n, .int .i64 k] w (ListP k (rz (quo n 1)) w) := by
  have hb0 := below_alloc1 w (.cells (madeCells #[.bool false, .slice none 0 0, .slice none 0 0] (k * 3)) 24)
  have hL0 := LstI.new w w.heap.size k (rz (quo n 1)) (Nat.le_refl _)
  have hz : ∀ o, (w.alloc o).heap.size = w.heap.size + 1 := fun o => Array.size_push _
  have hsn : Sz (quo n 1) 3 := sz_int (by omega) hn1
  have hs : ∀ i, i ≤ 65 → Sz (rz (quo n 1) i) 521 := fun i hi => by
    by_cases h : i ≤ 64
    · exact sz_le (sz_rz hsn i h) (by omega)
    · obtain rfl : i = 65 := by omega
      have h1 := sz_rz hsn 64 (by omega)
      have h2 := sz_sub hsn (sz_nat (n := 64) (by omega))
      exact sz_le (sz_div (sz_mul h1 h2) (sz_nat (n := 65) (by omega))) (by omega)
  have hq5 : ∀ i : Nat, i < 65 → Sz (quo (n - i) ((i : Int) + 1)) 7 := fun i hi => by
    rw [← quo_div, ← quo_sub]
    refine sz_le (sz_div (sz_sub hsn (sz_nat (n := i) (by omega))) (sz_nat (n := i + 1) (by omega))) (by decide)
  have HA := Lib.hid (And.intro hb0 (And.intro hL0 (And.intro hs hq5)))
  have HZ := Lib.hid hz
  clear hb0 hL0 hs hq5 hz hsn
  go_enter Try.func58, Try.ntmps58
  go_wp2_with fail
  rw [run_make32 k w hk]
  go_wp2_with fail
  refine (fromInt_any 1 _ (by omega) (by omega)).mono ?_
  rintro e w1 ⟨v, rfl, hv, hb1⟩
  rw [quo_one] at hv
  have hlt : w.heap.size < w1.heap.size := by have := hb1.size; rw [HZ.out] at this; omega
  have H1 := Lib.hid (And.intro (HA.out.2.1.below hb1) (And.intro hv (below_next' HA.out.1 hb1)))
  obtain ⟨y1, y2, y3, y4, y5, y6, rfl, _⟩ := hv
  clear hb1
  go_wp2
  have hb2 := below_alloc1 w1 (.cells #[.bool (decide ((1 : Rat).num < 0)), .slice y1 y2 y3, .slice y4 y5 y6] 24)
  have hB2 := BoxV.new w1 w.heap.size 24 (by omega) [.bool (decide ((1 : Rat).num < 0)), .slice y1 y2 y3, .slice y4 y5 y6]
  have HI := Lib.hid (And.intro (H1.out.1.below hb2) (And.intro (below_next' H1.out.2.2 hb2) (show RtO w w1.heap.size (rz (quo n 1) 0) _ from ⟨y1, y2, y3, y4, y5, y6, hB2, H1.out.2.1.below hb2⟩)))
  clear hb2 hB2
  go_loopw [12] (fun i wr => ∃ q : Nat, i = .int .i64 q ∧ q ≤ k ∧ LstI w.heap.size w.heap.size k (rz (quo n 1)) q wr ∧ Below w.heap.size w wr ∧ RtO w w1.heap.size (rz (quo n 1) q) wr) (fun i _ => k - (intOf i).toNat)
  case atStart => exact ⟨0, rfl, Nat.zero_le _, HI.out⟩
  case round =>
    obtain ⟨q, rfl, hq, hT, hbel, an, ln, cn, ad, ld, cd, hBs, hC⟩ := hrel
    by_cases hlt2 : q < k
    · have HL := Lib.hid hlt2
      have hT' := hT
      obtain ⟨xs, l1, l2, l3, _⟩ := hT
      have hxl : q * 3 + 2 < xs.length := by omega
      have c0 : wr.cell? ⟨w.heap.size, q * 3, none⟩ = some xs[q * 3] := by rw [l1.cell _ (by omega)]; exact List.getElem?_eq_getElem _
      have c1 : wr.cell? ⟨w.heap.size, q * 3 + 1, none⟩ = some xs[q * 3 + 1] := by rw [l1.cell _ (by omega)]; exact List.getElem?_eq_getElem _
      have c2 : wr.cell? ⟨w.heap.size, q * 3 + 2, none⟩ = some xs[q * 3 + 2] := by rw [l1.cell _ (by omega)]; exact List.getElem?_eq_getElem _
      have f0 := l1.frozen (q * 3)
      have f1 := l1.frozen (q * 3 + 1)
      have f2 := l1.frozen (q * 3 + 2)
      generalize xs[q * 3] = xa at c0
      generalize xs[q * 3 + 1] = xb at c1
      generalize xs[q * 3 + 2] = xc at c2
      have hgr : wr.grownBy (((wr.setCell ⟨w.heap.size, q * 3, none⟩ (.bool (decide ((rz (quo n 1) q).num < 0)))).setCell ⟨w.heap.size, q * 3 + 1, none⟩ (.slice an ln cn)).setCell ⟨w.heap.size, q * 3 + 2, none⟩ (.slice ad ld cd)) (some w.heap.size) :=
        grown_setCell (grown_setCell (grown_setCell (World.grownBy.refl _ _) _) _) _
      have hT2 := hT'.store hlt2 hC
      have hC2 := hC.other l1 l3 hgr
      have hB2 := hBs.kept hgr (by simp; omega)
      have hbel2 := ((hbel.setCell (p := ⟨w.heap.size, q * 3, none⟩) (Nat.le_refl _) (.bool (decide ((rz (quo n 1) q).num < 0)))).setCell (p := ⟨w.heap.size, q * 3 + 1, none⟩) (Nat.le_refl _) (.slice an ln cn)).setCell (p := ⟨w.heap.size, q * 3 + 2, none⟩) (Nat.le_refl _) (.slice ad ld cd)
      have hbx := boxC_of hB2 hC2 (HA.out.2.2.1 q (by omega))
      obtain ⟨⟨k0, k1, k2⟩, i0, i1, i2⟩ := hBs.three
      have HR := Lib.hid (And.intro hbx (And.intro hB2 (And.intro hT2 hbel2)))
      clear hT' l1 l2 l3 hxl hgr hT2 hC2 hB2 hbel2 hbx hBs hbel hC
      go_wp2_with fail
      refine region_flow_tail (Fe (chA n (rz (quo n 1) q) q)) (by rfl) (Fe.mono _) 29 8 [] (by rfl) (by kernel_rfl) (by kernel_rfl) (by kernel_rfl) (by kernel_rfl) (fun t ht => by cases ht) [0, 6, 7] (by kernel_rfl) ?g0 (Fe.draw _) ?gs ?gf
      case g0 =>
        intro t ht
        simp only [List.mem_cons, List.not_mem_nil, or_false] at ht
        rcases ht with rfl | rfl | rfl
        · rfl
        · exact HR.out.1
        · rfl
      case gs =>
        exact ⟨flowN_of (e_loadC rfl rfl) (by decide), flowN_of (e_move rfl) (by decide), flowN_of (e_move rfl) (by decide), flowN_of (e_isub rfl rfl rfl (by omega) (by omega)) (by decide), flowN_of (e_move rfl) (by decide), flowN_of (e_iadd1 rfl rfl (by omega) (by omega)) (by decide), flowN_of (e_small rfl rfl rfl (by omega) (by omega) (by omega) (by omega) (HA.out.2.2.2 q (by omega))) (by decide), flowN_of (e_mul73 rfl rfl rfl (by omega)) (by decide), trivial⟩
      intro a3 w3 hb3 hsz3 hdf3 hfacts hout _
      have f26 : RatC w3 (a3.tmps.getD 26 undef) (rz (quo n 1) q * quo (n - q) ((q : Int) + 1)) := hfacts 7 26 (by decide) rfl
      rw [rz_next] at f26
      have e0 : a3.tmps.getD 0 undef = .int .i64 n := hout 0 (free_of (by kernel_rfl))
      have e1 : a3.tmps.getD 1 undef = .int .i64 k := hout 1 (free_of (by kernel_rfl))
      have e2 : a3.tmps.getD 2 undef = undef := hout 2 (free_of (by kernel_rfl))
      have e3 : a3.tmps.getD 3 undef = undef := hout 3 (free_of (by kernel_rfl))
      have e4 : a3.tmps.getD 4 undef = .slice none 0 0 := hout 4 (free_of (by kernel_rfl))
      have e5 : a3.tmps.getD 5 undef = .slice (some ⟨w.heap.size, 0, none⟩) k k := hout 5 (free_of (by kernel_rfl))
      have e6 : a3.tmps.getD 6 undef = .pointer (some ⟨w1.heap.size, 0, none⟩) := hout 6 (free_of (by kernel_rfl))
      have e7 : a3.tmps.getD 7 undef = .int .i64 q := hout 7 (free_of (by kernel_rfl))
      have e8 : a3.tmps.getD 8 undef = .int .i64 k := hout 8 (free_of (by kernel_rfl))
      have e9 : a3.tmps.getD 9 undef = .slice (some ⟨w.heap.size, 0, none⟩) k k := hout 9 (free_of (by kernel_rfl))
      have e10 : a3.tmps.getD 10 undef = .agg #[.bool false, .slice y1 y2 y3, .slice y4 y5 y6] := hout 10 (free_of (by kernel_rfl))
      have e11 : a3.tmps.getD 11 undef = .int .i64 k := hout 11 (free_of (by kernel_rfl))
      have e12 : a3.tmps.getD 12 undef = .int .i64 q := hout 12 (free_of (by kernel_rfl))
      have e28 : a3.tmps.getD 28 undef = undef := hout 28 (free_of (by kernel_rfl))
      have hszn : a3.tmps.size = 29 := hsz3
      have hdfn : a3.defers = [] := hdf3
      have hB3 := HR.out.2.1.below hb3
      change runFrom _ _ _ 1 8 a3 w3
      simp only [runFrom]
      refine e_store (t := 6) (u := 26) rfl e6 hB3 f26 fun an' ln' cn' ad' ld' cd' hR => ?_
      have HN := Lib.hid (And.intro ((HR.out.2.2.1.below hb3).other (v0 := .bool (decide ((rz (quo n 1) (q + 1)).num < 0))) (v1 := .slice an' ln' cn') (v2 := .slice ad' ld' cd') hB3 (noLimb_rat _ _ _ _ _ _ _) (by omega)) (And.intro (below_set3 (below_next' HR.out.2.2.2 hb3) hB3.block.1 (.bool (decide ((rz (quo n 1) (q + 1)).num < 0))) (.slice an' ln' cn') (.slice ad' ld' cd')) (RtO.next hB3 (noLimb_rat _ _ _ _ _ _ _) hR)))
      generalize (((w3.setCell ⟨w1.heap.size, 0, none⟩ (.bool (decide ((rz (quo n 1) (q + 1)).num < 0)))).setCell ⟨w1.heap.size, 1, none⟩ (.slice an' ln' cn')).setCell ⟨w1.heap.size, 2, none⟩ (.slice ad' ld' cd')) = w4 at HN ⊢
      obtain ⟨uu, hu⟩ : ∃ u : Nat → Value, ∀ t, a3.tmps.getD t undef = u t := ⟨_, fun _ => rfl⟩
      have ha := act_eq a3 29 hszn hdfn
      simp only [hu] at ha e0 e1 e2 e3 e4 e5 e6 e7 e8 e9 e10 e11 e12 e28
      have ha' : a3 = ⟨#[uu 0, uu 1, uu 2, uu 3, uu 4, uu 5, uu 6, uu 7, uu 8, uu 9, uu 10, uu 11, uu 12, uu 13, uu 14, uu 15, uu 16, uu 17, uu 18, uu 19, uu 20, uu 21, uu 22, uu 23, uu 24, uu 25, uu 26, uu 27, uu 28], []⟩ := ha
      rw [e0, e1, e2, e3, e4, e5, e6, e7, e8, e9, e10, e11, e12, e28] at ha'
      clear ha hu e0 e1 e2 e3 e4 e5 e6 e7 e8 e9 e10 e11 e12 e28 hfacts hout hszn hdfn hsz3 hdf3 f26 hB3 hR hb3 k0 k1 k2 i0 i1 i2 c0 c1 c2 f0 f1 f2
      subst ha'
      go_wp2
      go_round
      case rel => exact ⟨q + 1, by go_num, by have := HL.out; omega, HN.out⟩
      case measure => have := HL.out; simp [intOf]; omega
    · have hqn : q = k := by omega
      subst hqn
      have HF := Lib.hid (And.intro hT hbel)
      clear hT hbel hBs hC hlt2
      go_wp2
      exact bodyPost_ret (v := .slice (some ⟨w.heap.size, 0, none⟩) q q) (by simp [results, Try.results58, go_sem]) rfl ⟨_, rfl, HF.out.1, HF.out.2⟩

end Go.Proofs.Ytdpiclmjdcjajaa

/-
  The program's Choose.
-/
namespace Go.Proofs.Ytdpiclmjdcjajaa
open Go.RowKit Num

end Go.Proofs.Ytdpiclmjdcjajaa

/-
  The program's Choose within its range.
-/
namespace Go.Proofs.Ytdpiclmjdcjajaa
open Go.RowKit Num

set_option maxRecDepth 100000 in
set_option maxHeartbeats 4000000 in
theorem choose_in (n : Int) (k : Nat) (w : World) (hk : k ≤ 64) (h1 : -9223372036854775808 ≤ n) (h2 : n ≤ 9223372036854775807) :
    Calls Try.prog 21 #[.int .i64 n, .int .i64 k] w (OkP (chQ n k) true w) := by
  have hb0 := below_alloc1 w (.cells #[.bool false, .slice none 0 0, .slice none 0 0] 24)
  have hB := BoxV.new w w.heap.size 24 (Nat.le_refl _) [.bool false, .slice none 0 0, .slice none 0 0]
  obtain ⟨m, hm⟩ : ∃ m, (if n < 0 then 0 else n) = m := ⟨_, rfl⟩
  have hm0 : 0 ≤ m := by rw [← hm]; split <;> omega
  have hm1 : m ≤ 9223372036854775807 := by rw [← hm]; split <;> omega
  have hmx : (if n < 0 then 0 else n) = m := hm
  unfold chQ
  rw [hm]
  have hc := fun w' => chooses_any m (k + 1) w' (by omega) (by omega) hm0 hm1
  rw [show ((k + 1 : Nat) : Int) = (k : Int) + 1 from rfl] at hc
  obtain ⟨r, hr⟩ : ∃ r, rz (quo m 1) k = r := ⟨_, rfl⟩
  rw [hr]
  have HA := Lib.hid (And.intro hb0 (And.intro hB (And.intro hc hr)))
  clear hb0 hB hc hr
  go_enter Try.func21, Try.ntmps21
  have hmm : (n ≤ 0 ∧ 0 = m) ∨ (0 < n ∧ n = m) := by rw [← hm]; split <;> omega
  clear hm hmx
  rcases hmm with ⟨hneg, rfl⟩ | ⟨hneg, rfl⟩
  all_goals
    go_wp2_with fail
    refine (HA.out.2.2.1 _).mono ?_
    rintro e w2 ⟨g, rfl, hL, hb2⟩
    have hB2 := HA.out.2.1.below hb2
    have hbb := below_next' HA.out.1 hb2
    obtain ⟨xs, l1, l2, l3, l4⟩ := hL
    obtain ⟨x, y, z, a1, a2, a3, hR⟩ := l4 k (by omega)
    rw [HA.out.2.2.2] at hR
    have HV := Lib.hid hR
    have c0 : w2.cell? ⟨g, k * 3, none⟩ = some x := by rw [l1.cell _ (by omega)]; exact a1
    have c1 : w2.cell? ⟨g, k * 3 + 1, none⟩ = some y := by rw [l1.cell _ (by omega)]; exact a2
    have c2 : w2.cell? ⟨g, k * 3 + 2, none⟩ = some z := by rw [l1.cell _ (by omega)]; exact a3
    obtain ⟨zn, zl, zc, en, el, ec, he, _⟩ := hR
    obtain ⟨rfl, rfl, rfl⟩ : x = .bool (decide (r.num < 0)) ∧ y = .slice zn zl zc ∧ z = .slice en el ec := by simpa using he
    obtain ⟨⟨x0, x1, x2⟩, j0, j1, j2⟩ := hB2.three
    have HF := Lib.hid (And.intro hbb hB2)
    clear hB2 hbb hb2 l1 l2 l3 l4 a1 a2 a3 he
    go_wp2
    obtain ⟨e1, e2⟩ := ratC_end HF.out.1 HF.out.2 HV.out
    obtain ⟨⟨x0, x1, x2⟩, _⟩ := (HF.out.2.store3 (.bool (decide (r.num < 0))) (.slice zn zl zc) (.slice en el ec)).three
    exact bodyPost_ret (v := .tuple #[.agg #[.bool (decide (r.num < 0)), .slice zn zl zc, .slice en el ec], .bool true]) (by simp [results, Try.results21, go_sem, x0, x1, x2]) rfl ⟨_, rfl, e1, e2⟩


end Go.Proofs.Ytdpiclmjdcjajaa

/-
  The walk of the law BinomialChooses.
-/
namespace Go.Proofs.Ytdpiclmjdcjajaa
open Go.RowKit Num

theorem ch52 : chQ 5 2 = 10 := by decide +kernel
theorem quo10 : quo 10 1 = 10 := by decide +kernel

theorem fl_ref48 {κ : Tmp → Kd} {G : Nat → Option Tmp} {d : Tmp} {ty : TypeId} {pos : String} {es : Array Edge} {n : Int} {q : Rat} {g : Option (Nat × Bool)} (hg : GuardYes (Fk κ) G g) (hq : quo n 1 = q) (hd : κ d = .ratC 1 q) (h1 : -9223372036854775808 ≤ n) (h2 : n ≤ 9223372036854775807) (hs : Sz q 1) :
    FlowStep Try.prog (Fk κ) G ⟨some d, .call ⟨.value (.func 48), #[.const (.int .i64 n)], #[2]⟩, ty, pos, es, g⟩ := by
  refine step_yes hg fun a w Q _ => ?_
  unfold Oper.wp
  have hr : Sem.run Try.prog (execOp a.eval ⟨some d, .call ⟨.value (.func 48), #[.const (.int .i64 n)], #[2]⟩, ty, pos, es, g⟩) w = .ok (.enter 48 #[.int .i64 n]) w := by go_simp
  rw [hr, Oper.upon_enter]
  refine (refFromInt_any n w h1 h2).mono ?_
  rintro e w' ⟨v, rfl, hv, hb⟩
  rw [hq] at hv
  exact ⟨v, rfl, hb, fun d' hd' => by cases hd'; unfold Fk; rw [hd]; exact ⟨hv, hs⟩⟩

def awk : Tmp → Kd := fun t => ([.val (.bool true), .boxC 513 10, .val (.bool true), .any, .any, .any, .any, .val (.bool true), .val (.bool true), .ratC 513 10, .ratC 1 10, .val (.bool true), .val (.bool true)] : List Kd).getD t .any

set_option maxRecDepth 100000 in
set_option maxHeartbeats 4000000 in
theorem awake2_any (w : World) : Calls Try.prog 23 #[] w (TrueP w) := by
  have hs10 : Sz (10 : Rat) 1 := by have := sz_nat (n := 10) (by decide); rwa [show quo ((10 : Nat) : Int) 1 = 10 from quo10] at this
  have hc := fun w => choose_in 5 2 w (by decide) (by omega) (by omega)
  rw [ch52] at hc
  have HA := Lib.hid (And.intro hs10 hc)
  clear hs10 hc
  go_enter Try.func23, Try.ntmps23
  go_wp2_with fail
  refine (HA.out.2 w).mono ?_
  rintro e w1 ⟨v, rfl, hv, hb1⟩
  have H1 := Lib.hid (And.intro hv hb1)
  have hsz := hb1.size
  obtain ⟨y1, y2, y3, y4, y5, y6, rfl, _⟩ := hv
  clear hb1
  go_wp2_with fail
  have hb2 := below_alloc1 w1 (.cells #[.bool (decide ((10 : Rat).num < 0)), .slice y1 y2 y3, .slice y4 y5 y6] 24)
  have hB2 := BoxV.new w1 w.heap.size 24 hsz [.bool (decide ((10 : Rat).num < 0)), .slice y1 y2 y3, .slice y4 y5 y6]
  have hbx := boxC_of hB2 (H1.out.1.below hb2) (sz_le HA.out.1 (by decide) : Sz (10 : Rat) 513)
  have HK := Lib.hid (And.intro (below_next' H1.out.2 hb2) hbx)
  clear hb2 hB2 hbx
  refine region_flow (Fk awk) (by rfl) (fun t w w' v hb h => Kd.below hb h) 13 (by rfl) (by kernel_rfl) (by kernel_rfl) [1, 2] (by kernel_rfl) ?h0 (fun t v h => Kd.draw _ _ _ h) ?steps ?fin
  case h0 =>
    intro t ht
    simp only [List.mem_cons, List.not_mem_nil, or_false] at ht
    rcases ht with rfl | rfl
    · exact HK.out.2
    · rfl
  case steps =>
    exact ⟨fl_move guard_none rfl, fl_move guard_none rfl, fl_loadC (guard_true (s := 8) rfl rfl) rfl rfl, fl_ref48 (guard_true (s := 8) rfl rfl) quo10 rfl (by omega) (by omega) HA.out.1, fl_same (guard_true (s := 8) rfl rfl) rfl rfl rfl (same_iff rfl) (by omega), fl_and guard_none rfl rfl, fl_assign guard_none rfl, trivial⟩
  case fin =>
    intro A7 w11 hb11 _ hdf7 hfacts7 _
    have e6 : A7.tmps[0]?.getD undef = .bool true := by rw [← Array.getD_eq_getD_getElem?]; exact hfacts7 6 0 rfl
    have hdd : A7.defers = [] := by rw [hdf7]
    have HR := Lib.hid (below_next' HK.out.1 hb11)
    clear hfacts7 hdf7 hb11
    go_wp2_with fail
    exact bodyPost_ret (v := .bool true) (by simp [results, Try.results23, go_sem, e6]) hdd ⟨rfl, HR.out⟩

end Go.Proofs.Ytdpiclmjdcjajaa

/-
  The recurrence of Pascal for the polynomials of the binomial basis, and the walk of the law BinomialPascal. No conditions.
-/
namespace Go.Proofs.Ytdpiclmjdcjajaa
open Go.RowKit Num

theorem quo_cast (a : Int) : quo a 1 = (a : Rat) := by
  rw [quo_mk (by omega)]
  exact Rat.mkRat_one a
theorem pos1 (i : Nat) : ((i : Rat) + 1) ≠ 0 := by
  have h : (0 : Rat) ≤ (i : Rat) := by exact_mod_cast Nat.zero_le i
  grind
theorem rz_succ (n : Rat) (i : Nat) : rz n (i + 1) = rz n i * (n - (i : Rat)) / ((i : Rat) + 1) := by
  show rz n i * (n - quo i 1) / quo ((i : Int) + 1) 1 = _
  rw [quo_cast, quo_cast]
  push_cast
  rfl
theorem rz_shift (n : Rat) (i : Nat) : rz (n + 1) (i + 1) = rz n i * (n + 1) / ((i : Rat) + 1) := by
  induction i with
  | zero =>
    rw [rz_succ]
    show (1 : Rat) * (n + 1 - ((0 : Nat) : Rat)) / (((0 : Nat) : Rat) + 1) = 1 * (n + 1) / (((0 : Nat) : Rat) + 1)
    grind
  | succ i ih =>
    have h1 := pos1 i
    have h2 := pos1 (i + 1)
    rw [rz_succ (n + 1), ih, rz_succ n i]
    have h3 : ((i + 1 : Nat) : Rat) = (i : Rat) + 1 := by push_cast; rfl
    rw [h3] at h2 ⊢
    grind
theorem rz_pascal (n : Rat) (i : Nat) : rz (n + 1) (i + 1) = rz n i + rz n (i + 1) := by
  have h1 := pos1 i
  rw [rz_shift, rz_succ]
  grind
theorem ch_pascal {n : Int} (h : 0 ≤ n) (k : Nat) : chQ (n + 1) (k + 1) = chQ n k + chQ n (k + 1) := by
  unfold chQ
  rw [if_neg (by omega), if_neg (by omega), ← rz_pascal, quo_cast, quo_cast]
  push_cast
  rfl
theorem sz_ch {n : Int} {k : Nat} (h1 : -9223372036854775808 ≤ n) (h2 : n ≤ 9223372036854775807) (hk : k ≤ 64) : Sz (chQ n k) 513 := by
  unfold chQ
  split
  · exact sz_le (sz_rz (sz_int (by omega) (by omega)) k hk) (by omega)
  · exact sz_le (sz_rz (sz_int h1 h2) k hk) (by omega)

section
variable {κ : Tmp → Kd} {G : Nat → Option Tmp} {d : Tmp} {ty : TypeId} {pos : String} {es : Array Edge} {g : Option (Nat × Bool)}
end

end Go.Proofs.Ytdpiclmjdcjajaa

/-
  Rows of Pascal's triangle: what the program's pascalRow makes, and that its products are what the factorials give, by the kernel's reckoning. Conditions: indices up to 32.
-/
namespace Go.Proofs.Ytdpiclmjdcjajaa
open Go.RowKit Num

def fact : Nat → Nat
  | 0 => 1
  | n + 1 => (n + 1) * fact n
/-- Row n of the triangle, as the program reckons it. -/
def pas (n : Nat) : Nat → Nat
  | 0 => 1
  | k + 1 => pas n k * (n - k) / (k + 1)
theorem all_small : (List.range 33).all (fun n => (List.range 34).all fun k => decide (pas n k ≤ 1000000000)) = true := by decide +kernel
theorem pas_small {n k : Nat} (hn : n ≤ 32) (hk : k ≤ 33) : pas n k ≤ 1000000000 := by
  have h := List.all_eq_true.1 all_small n (by simp; omega)
  have h := List.all_eq_true.1 h k (by simp; omega)
  exact of_decide_eq_true h
theorem pas_zero {n k : Nat} (h : n < k) : pas n k = 0 := by
  induction k with
  | zero => omega
  | succ k ih =>
    show pas n k * (n - k) / (k + 1) = 0
    rcases Nat.lt_or_ge n k with h1 | h1
    · rw [ih h1, Nat.zero_mul, Nat.zero_div]
    · rw [show n - k = 0 by omega, Nat.mul_zero, Nat.zero_div]
theorem fact_pos (n : Nat) : 0 < fact n := by
  induction n with
  | zero => exact Nat.one_pos
  | succ n ih => exact Nat.mul_pos (by omega) ih

/-- A row of 33 integers. -/
def rowL (f : Nat → Nat) : List Value := (List.range 33).map fun k => Value.int .i64 (f k : Int)
def rowA (f : Nat → Nat) : Array Value := (rowL f).toArray
theorem rowL_length (f : Nat → Nat) : (rowL f).length = 33 := by simp [rowL]
theorem rowL_get (f : Nat → Nat) {k : Nat} (h : k < 33) : (rowL f)[k]? = some (.int .i64 (f k : Int)) := by simp [rowL, h]
def upd (f : Nat → Nat) (j x : Nat) : Nat → Nat := fun k => if k = j then x else f k
theorem rowL_set (f : Nat → Nat) {j : Nat} (x : Nat) (h : j < 33) : (rowL f).set j (.int .i64 (x : Int)) = rowL (upd f j x) := by
  apply List.ext_getElem?
  intro k
  rcases Nat.lt_or_ge k 33 with hk | hk
  · rw [List.getElem?_set, rowL_get _ hk, rowL_get _ hk, rowL_length]
    unfold upd
    by_cases e : j = k
    · subst e; rw [if_pos rfl, if_pos h, if_pos rfl]
    · rw [if_neg e, if_neg (fun e' => e e'.symm)]
  · rw [List.getElem?_eq_none (by rw [List.length_set, rowL_length]; exact hk), List.getElem?_eq_none (by rw [rowL_length]; exact hk)]
theorem rowL_congr {f g : Nat → Nat} (h : ∀ k, k < 33 → f k = g k) : rowL f = rowL g := by
  unfold rowL
  apply List.map_congr_left
  intro k hk
  rw [h k (by simpa using hk)]
theorem rowA_one (f : Nat → Nat) : (rowA f).all (·.oneCell') = true := by
  rw [Array.all_eq_true_iff_forall_mem]
  intro v hv
  simp only [rowA, rowL, List.mem_toArray, List.mem_map] at hv
  obtain ⟨k, _, rfl⟩ := hv
  rfl
theorem rowA_size (f : Nat → Nat) : (rowA f).size = 33 := by unfold rowA; simp [rowL_length]

/-- A row that the call itself made. -/
def RowB (w : World) (B g : Nat) (f : Nat → Nat) : Prop := w.ownsRow B 74 33 (.slice (some ⟨g, 0, none⟩) 1 1) 1 (rowL f)
theorem RowB.cell {w : World} {B g : Nat} {f : Nat → Nat} (h : RowB w B g f) {j : Nat} (hj : j < 33) : w.cell? ⟨g, j, none⟩ = some (.int .i64 (f j : Int)) := by
  rw [World.ownsRow.cellAt h j (by omega), rowL_get f hj]
theorem RowB.frozen {w : World} {B g : Nat} {f : Nat → Nat} (h : RowB w B g f) (j : Nat) : w.frozen? ⟨g, j, none⟩ = false := World.ownsRow.frozenAt h j
theorem RowB.heap {w : World} {B g : Nat} {f : Nat → Nat} (h : RowB w B g f) : w.heap[g]? = some (.cells (rowA f) 74 (0, 0)) := by
  rcases h.2 with ⟨h', _⟩ | ⟨g', cap', cur, h', hb, hg, hnc, hcm, hcs, htake⟩
  · cases h'
  · simp only [Value.slice.injEq, Option.some.injEq, Addr.mk.injEq, and_true, true_and] at h'
    obtain ⟨rfl, rfl⟩ := h'
    rw [hg]
    have : cur = rowA f := by
      apply Array.toList_inj.1
      rw [List.take_of_length_le (by rw [Array.length_toList, hcs]; omega)] at htake
      rw [htake]; rfl
    rw [this]
theorem RowB.block {w : World} {B g : Nat} {f : Nat → Nat} (h : RowB w B g f) : B ≤ g ∧ g < w.heap.size := World.ownsRow.lt h g rfl
theorem RowB.store {w : World} {B g : Nat} {f : Nat → Nat} (h : RowB w B g f) {j : Nat} (x : Nat) (hj : j < 33) : RowB (w.setCell ⟨g, j, none⟩ (.int .i64 (x : Int))) B g (upd f j x) := by
  unfold RowB
  rw [← rowL_set f x hj]
  exact (World.ownsRow.stored h j _).1
theorem RowB.congr {w : World} {B g : Nat} {f f' : Nat → Nat} (h : RowB w B g f) (he : ∀ k, k < 33 → f k = f' k) : RowB w B g f' := by
  unfold RowB; rw [← rowL_congr he]; exact h
theorem RowB.below {w w' : World} {B g : Nat} {f : Nat → Nat} (h : RowB w B g f) (hb : Below w.heap.size w w') : RowB w' B g f :=
  World.ownsRow.kept (row := none) h ⟨hb.os, hb.tape, hb.output, hb.size, fun k hk _ => hb.block k hk⟩ (.inr (by simp [Value.ownBlock]))
theorem RowB.kept {w w' : World} {B g : Nat} {f : Nat → Nat} {row : Option Nat} (h : RowB w B g f) (hg : w.grownBy w' row) (hne : some g ≠ row) : RowB w' B g f :=
  World.ownsRow.kept h hg (.inr (by simpa [Value.ownBlock] using hne))
theorem RowB.new (w : World) (B : Nat) (hB : B ≤ w.heap.size) (f : Nat → Nat) : RowB (w.alloc (.cells (rowA f) 74)) B w.heap.size f := by
  have := World.ownsRow_lit (base := B) (e := 74) (size := 33) w (rowA f) 1 hB (by unfold maxLen; omega) (by rw [rowA_size])
  unfold RowB
  simpa [rowA] using this
theorem RowB.setRow {w : World} {B g : Nat} {f : Nat → Nat} (h : RowB w B g f) (f' : Nat → Nat) : RowB (w.setRow g (rowA f')) B g f' ∧ w.grownBy (w.setRow g (rowA f')) (some g) := by
  refine ⟨⟨by rw [rowL_length], .inr ⟨g, 1, rowA f', rfl, h.block.1, setRow_heap w g (rowA f) _ 74 _ h.heap, Nat.le_refl _, by unfold maxLen; omega, by rw [rowA_size], ?_⟩⟩, ⟨rfl, rfl, rfl, by simp [World.setRow], fun k _ hk => setRow_other w g k _ (fun e => hk (by rw [e]))⟩⟩
  rw [List.take_of_length_le (by rw [Array.length_toList, rowA_size]; omega)]
  rfl
def RowP (f : Nat → Nat) (w : World) (e : Ending) (w' : World) : Prop := e = .returned (.agg (rowA f)) ∧ Below w.heap.size w w'
theorem Try.size74 : (Try.prog.info? 74).map (·.size) = some 33 := by kernel_rfl
end Go.Proofs.Ytdpiclmjdcjajaa

/-
  The walk of pascalRow. Condition: the row's number is at most 32.
-/
namespace Go.Proofs.Ytdpiclmjdcjajaa
open Go.RowKit Num

def z0 : Nat → Nat := fun _ => 0
def pk (n i : Nat) : Nat → Nat := fun j => if j ≤ i then pas n j else 0
theorem pk_zero (n : Nat) : ∀ k, k < 33 → upd z0 0 1 k = pk n 0 k := by
  intro k _
  unfold upd z0 pk
  by_cases h : k = 0
  · subst h; rfl
  · rw [if_neg h, if_neg (by omega)]
theorem pk_next (n i : Nat) : ∀ k, k < 33 → upd (pk n i) (i + 1) (pas n (i + 1)) k = pk n (i + 1) k := by
  intro k _
  unfold upd pk
  by_cases h : k = i + 1
  · subst h; rw [if_pos rfl, if_pos (Nat.le_refl _)]
  · rw [if_neg h]
    by_cases h2 : k ≤ i
    · rw [if_pos h2, if_pos (by omega)]
    · rw [if_neg h2, if_neg (by omega)]
theorem pk_end (n : Nat) : ∀ k, k < 33 → pk n n k = pas n k := by
  intro k _
  unfold pk
  by_cases h : k ≤ n
  · rw [if_pos h]
  · rw [if_neg h, pas_zero (by omega)]

set_option maxRecDepth 100000 in
set_option maxHeartbeats 4000000 in
theorem pascalRow_any (n : Nat) (hn : n ≤ 32) (w : World) : Calls Try.prog 109 #[.int .i64 n] w (RowP (pas n) w) := by
  have hS : RowB ((w.alloc (.cells (rowA z0) 74)).alloc (.cells (rowA (upd z0 0 1)) 74)) w.heap.size w.heap.size z0 := World.ownsRow.alloc (RowB.new w w.heap.size (Nat.le_refl _) z0) _
  have hR : RowB ((w.alloc (.cells (rowA z0) 74)).alloc (.cells (rowA (upd z0 0 1)) 74)) w.heap.size (w.heap.size + 1) (upd z0 0 1) := by
    have := RowB.new (w.alloc (.cells (rowA z0) 74)) w.heap.size (by simp) (upd z0 0 1)
    simpa using this
  have hb : Below w.heap.size w ((w.alloc (.cells (rowA z0) 74)).alloc (.cells (rowA (upd z0 0 1)) 74)) := ((Below.refl _ w).alloc (Nat.le_refl _) _).alloc (by simp) _
  have HA := Lib.hid (And.intro (hR.congr (pk_zero n)) (And.intro hS hb))
  clear hS hR hb
  go_enter Try.func109, Try.ntmps109
  go_wp2_with fail
  go_loopw [7] (fun x wr => ∃ i : Nat, i ≤ n ∧ x = .int .i64 i ∧ RowB wr w.heap.size (w.heap.size + 1) (pk n i) ∧ RowB wr w.heap.size w.heap.size z0 ∧ Below w.heap.size w wr) (fun x _ => n - (intOf x).toNat)
  case atStart => exact ⟨0, Nat.zero_le _, rfl, HA.out.1, HA.out.2.1, HA.out.2.2⟩
  case round =>
    obtain ⟨i, hi, rfl, hR, hS, hb⟩ := hrel
    by_cases hlt : i < n
    · have hil : (i : Int) < (n : Int) := by omega
      have c0 := hR.cell (j := i) (by omega)
      have c1 := hR.cell (j := i + 1) (by omega)
      have f1 := hR.frozen (i + 1)
      obtain ⟨p, hp⟩ : ∃ p, pas n i = p := ⟨_, rfl⟩
      have e0 : pk n i i = p := by unfold pk; rw [if_pos (Nat.le_refl _)]; exact hp
      rw [e0] at c0
      have hps : p ≤ 1000000000 := by rw [← hp]; exact pas_small hn (by omega)
      obtain ⟨m, hm⟩ : ∃ m : Nat, p * (n - i) = m := ⟨_, rfl⟩
      have hmb : m ≤ 32000000000 := by
        rw [← hm]
        exact Nat.le_trans (Nat.mul_le_mul hps (by omega : n - i ≤ 32)) (by decide)
      have hmi : (p : Int) * ((n : Int) - (i : Int)) = (m : Int) := by
        rw [← hm, Int.natCast_mul, Int.natCast_sub (by omega)]
      obtain ⟨q, hq⟩ : ∃ q : Nat, m / (i + 1) = q := ⟨_, rfl⟩
      have hqi : (m : Int) / ((i : Int) + 1) = (q : Int) := by rw [← hq]; simp
      have hqb : q ≤ 32000000000 := by rw [← hq]; exact Nat.le_trans (Nat.div_le_self _ _) hmb
      have hqp : q = pas n (i + 1) := by rw [← hq, ← hm, ← hp]; rfl
      have HQ := Lib.hid (And.intro hqp (And.intro (hR.store (j := i + 1) q (by omega)) (And.intro hR (And.intro hS hb))))
      clear hm hq hqp hp e0 hR hS hb
      go_wp2
      go_roundw
      case rel =>
        have h := HQ.out.2.1
        rw [HQ.out.1] at h
        refine ⟨i + 1, by omega, by go_num, ?_, HQ.out.2.2.2.1.kept (World.ownsRow.stored HQ.out.2.2.1 (i + 1) _).2 (by simp), HQ.out.2.2.2.2.setCell (by simp) _⟩
        rw [HQ.out.1]
        exact h.congr (pk_next n i)
      case measure => simp [intOf]; omega
    · obtain rfl : i = n := by omega
      have hR2 := hR.congr (pk_end i)
      have hh := hR2.heap
      have hh0 := hS.heap
      have hS2 := hS.setRow (pas i)
      have HF := Lib.hid (And.intro hS2.1 (And.intro hb hS))
      clear hR hS hb hR2 hS2
      go_wp2_with (first
        | refine wpList_load_row rfl 74 _ rfl (w.heap.size + 1) rfl 74 (rowA (pas i)) (0, 0) _ hh Try.underlying74 rfl (by rw [rowA_size]; exact Try.size74) ?_
        | refine wpList_store_row rfl 74 _ _ rfl w.heap.size (rowA (pas i)) rfl rfl 74 (rowA z0) hh0 (by rw [rowA_size]; exact Try.size74) (by rw [rowA_size, rowA_size]) (rowA_one _) ?_)
      exact bodyPost_ret (v := .agg (rowA (pas i))) (results_cell_row (P := Try.prog) Try.results109 _ _ w.heap.size 74 (rowA (pas i)) (0, 0) _ rfl HF.out.1.heap Try.underlying74 rfl (by rw [rowA_size]; exact Try.size74)) rfl
        ⟨rfl, HF.out.2.1.grown (HF.out.2.2.setRow (pas i)).2 HF.out.2.1.size (fun k hk => by cases hk; exact Nat.le_refl _)⟩
end Go.Proofs.Ytdpiclmjdcjajaa

/-
  The walk of productRow. Condition: both numbers are at most 16.
-/
namespace Go.Proofs.Ytdpiclmjdcjajaa
open Go.RowKit Num

/-- What the row holds when the elements below k are laid. -/
def prow (a b k : Nat) : Nat → Nat := fun j => if a ≤ j ∧ b ≤ j ∧ j < k then pas j a * pas a (j - b) else 0

def Ke.arr (g : Nat) (f : Nat → Nat) : Ke := ⟨fun w v => v = .pointer (some ⟨g, 0, none⟩) ∧ ∀ j, j < 33 → w.cell? ⟨g, j, none⟩ = some (.int .i64 (f j : Int)), fun hb h => ⟨h.1, fun j hj => cell_below hb (h.2 j hj)⟩⟩
def Ke.cel (g j x : Nat) : Ke := ⟨fun w v => v = .pointer (some ⟨g, j, none⟩) ∧ w.cell? ⟨g, j, none⟩ = some (.int .i64 (x : Int)), fun hb h => ⟨h.1, cell_below hb h.2⟩⟩

section
variable {κ : Tmp → Ke} {G : Nat → Option Tmp} {d t u : Tmp} {ty : TypeId} {pos : String} {es : Array Edge}
theorem run_call109 (a : Act) (d : Option Tmp) (ty : TypeId) (pos : String) (es : Array Edge) (t : Tmp) (w : World) :
    Sem.run Try.prog (execOp a.eval ⟨d, .call ⟨.value (.func 109), #[.tmp t], #[3]⟩, ty, pos, es, none⟩) w = .ok (.enter 109 #[a.tmps.getD t undef]) w := by go_simp
theorem e_pascal {n : Nat} (ht : κ t = .con (.int .i64 n)) (hd : κ d = .con (.agg (rowA (pas n)))) (hn : n ≤ 32) : FlowStep Try.prog (Fe κ) G ⟨some d, .call ⟨.value (.func 109), #[.tmp t], #[3]⟩, ty, pos, es, none⟩ := by
  refine e_step rfl fun a w Q hf => ?_
  have h := hf t (by simp [Op.operands, Call.operands])
  rw [ht] at h
  have h : a.tmps.getD t undef = .int .i64 n := h
  unfold Oper.wp
  rw [run_call109, h, Oper.upon_enter]
  refine (pascalRow_any n hn w).mono ?_
  rintro e w' ⟨rfl, hb⟩
  exact ⟨_, rfl, hb, fun d' hd' => by cases hd'; rw [hd]; rfl⟩
theorem run_idx (a : Act) (d : Option Tmp) (ty : TypeId) (pos : String) (es : Array Edge) (t u : Tmp) (w : World) (f : Nat → Nat) (j : Nat) (ht : a.tmps.getD t undef = .agg (rowA f)) (hu : a.tmps.getD u undef = .int .i64 j) (hj : j < 33) :
    Sem.run Try.prog (execOp a.eval ⟨d, .index 74 (.tmp t) (.tmp u), ty, pos, es, none⟩) w = .ok (.value (.int .i64 (f j : Int))) w := by
  have hs := rowA_size f
  have hg : (rowA f)[j]? = some (.int .i64 (f j : Int)) := by unfold rowA; rw [List.getElem?_toArray]; exact rowL_get f hj
  have hji : (j : Int) < 33 := by omega
  have hi : (Instr.index 74 (.agg (rowA f)) (.int .i64 (j : Int))).run Try.prog w = .ok (.int .i64 (f j : Int)) w := by
    generalize rowA f = A at *
    simp [Instr.index, asIntOf, run_underlying Try.underlying74, part, Try.sizeOf2, Try.isAgg2, hg]
    omega
  generalize rowA f = A at *
  go_simp
theorem run_idxA (a : Act) (d : Option Tmp) (ty : TypeId) (pos : String) (es : Array Edge) (t u : Tmp) (w : World) (g j : Nat) (ht : a.tmps.getD t undef = .pointer (some ⟨g, 0, none⟩)) (hu : a.tmps.getD u undef = .int .i64 j) (hj : j < 33) :
    Sem.run Try.prog (execOp a.eval ⟨d, .indexAddr 74 (.tmp t) (.tmp u), ty, pos, es, none⟩) w = .ok (.value (.pointer (some ⟨g, j, none⟩))) w := by
  have hji : (j : Int) < 33 := by omega
  go_simp
theorem run_load2 (a : Act) (d : Option Tmp) (ty : TypeId) (pos : String) (es : Array Edge) (t : Tmp) (w : World) (g j : Nat) (x : Value) (ht : a.tmps.getD t undef = .pointer (some ⟨g, j, none⟩)) (hc : w.cell? ⟨g, j, none⟩ = some x) :
    Sem.run Try.prog (execOp a.eval ⟨d, .load 2 (.tmp t), ty, pos, es, none⟩) w = .ok (.value x) w := by go_simp
theorem run_store2 (a : Act) (d : Option Tmp) (ty : TypeId) (pos : String) (es : Array Edge) (t u : Tmp) (w : World) (g j : Nat) (x : Int) (y : Value) (ht : a.tmps.getD t undef = .pointer (some ⟨g, j, none⟩)) (hu : a.tmps.getD u undef = .int .i64 x) (hc : w.cell? ⟨g, j, none⟩ = some y) (hf : w.frozen? ⟨g, j, none⟩ = false) :
    Sem.run Try.prog (execOp a.eval ⟨d, .store 2 (.tmp t) (.tmp u), ty, pos, es, none⟩) w = .ok .skip (w.setCell ⟨g, j, none⟩ (.int .i64 x)) := by go_simp
theorem e_idx {f : Nat → Nat} {j x : Nat} (ht : κ t = .con (.agg (rowA f))) (hu : κ u = .con (.int .i64 j)) (hd : κ d = .con (.int .i64 (x : Int))) (hx : f j = x) (hj : j < 33) : FlowStep Try.prog (Fe κ) G ⟨some d, .index 74 (.tmp t) (.tmp u), ty, pos, es, none⟩ := by
  subst hx
  exact e_bi (by simp [Op.operands]) (by simp [Op.operands]) ht hu hd fun a w h h' => run_idx _ _ _ _ _ _ _ _ f j h h' hj
theorem e_idxA {f : Nat → Nat} {g j x : Nat} (ht : κ t = .arr g f) (hu : κ u = .con (.int .i64 j)) (hd : κ d = .cel g j x) (hx : f j = x) (hj : j < 33) : FlowStep Try.prog (Fe κ) G ⟨some d, .indexAddr 74 (.tmp t) (.tmp u), ty, pos, es, none⟩ := by
  subst hx
  refine e_step rfl fun a w Q hf => ?_
  have h := hf t (by simp [Op.operands])
  have h' := hf u (by simp [Op.operands])
  rw [ht] at h
  rw [hu] at h'
  have h' : a.tmps.getD u undef = .int .i64 j := h'
  unfold Oper.wp
  rw [run_idxA _ _ _ _ _ _ _ _ g j h.1 h' hj, Oper.upon_value]
  exact ⟨_, rfl, Below.refl _ _, fun d' hd' => by cases hd'; rw [hd]; exact ⟨rfl, h.2 j hj⟩⟩
theorem e_idxP {g j : Nat} (ht : κ t = .con (.pointer (some ⟨g, 0, none⟩))) (hu : κ u = .con (.int .i64 j)) (hd : κ d = .con (.pointer (some ⟨g, j, none⟩))) (hj : j < 33) : FlowStep Try.prog (Fe κ) G ⟨some d, .indexAddr 74 (.tmp t) (.tmp u), ty, pos, es, none⟩ :=
  e_bi (by simp [Op.operands]) (by simp [Op.operands]) ht hu hd fun a w h h' => run_idxA _ _ _ _ _ _ _ _ g j h h' hj
theorem e_load2 {g j x : Nat} (ht : κ t = .cel g j x) (hd : κ d = .con (.int .i64 (x : Int))) : FlowStep Try.prog (Fe κ) G ⟨some d, .load 2 (.tmp t), ty, pos, es, none⟩ := by
  refine e_step rfl fun a w Q hf => ?_
  have h := hf t (by simp [Op.operands])
  rw [ht] at h
  unfold Oper.wp
  rw [run_load2 _ _ _ _ _ _ _ g j _ h.1 h.2, Oper.upon_value]
  exact ⟨_, rfl, Below.refl _ _, fun d' hd' => by cases hd'; rw [hd]; rfl⟩
theorem e_sub3 {n m z : Int} (ht : κ t = .con (.int .i64 n)) (hu : κ u = .con (.int .i64 m)) (hd : κ d = .con (.int .i64 z)) (hz : n - m = z) (h1 : -9223372036854775808 ≤ z) (h2 : z ≤ 9223372036854775807) :
    FlowStep Try.prog (Fe κ) G ⟨some d, .binOp .sub 3 (.tmp t) (.tmp u) 3, ty, pos, es, none⟩ :=
  e_bi (by simp [Op.operands]) (by simp [Op.operands]) ht hu hd fun a w h h' => by
    go_simp
    exact wrap_in h1 h2
theorem e_mul2i {n m z : Int} (ht : κ t = .con (.int .i64 n)) (hu : κ u = .con (.int .i64 m)) (hd : κ d = .con (.int .i64 z)) (hz : n * m = z) (h1 : -9223372036854775808 ≤ z) (h2 : z ≤ 9223372036854775807) :
    FlowStep Try.prog (Fe κ) G ⟨some d, .binOp .mul 2 (.tmp t) (.tmp u) 2, ty, pos, es, none⟩ :=
  e_bi (by simp [Op.operands]) (by simp [Op.operands]) ht hu hd fun a w h h' => by
    go_simp
    exact wrap_in h1 h2
end

/-- An integer is stored at the region's end. -/
theorem tail_store2 {ops : Array Oper} {Q : Exit → Act → World → Prop} {K : Act → World → Prop} {m t u g j : Nat} {x : Int} {y : Value} {a : Act} {w : World} {ty : TypeId} {pos : String} {es : Array Edge}
    (ho : ops[m]? = some ⟨none, .store 2 (.tmp t) (.tmp u), ty, pos, es, none⟩) (ht : a.tmps.getD t undef = .pointer (some ⟨g, j, none⟩)) (hu : a.tmps.getD u undef = .int .i64 x) (hc : w.cell? ⟨g, j, none⟩ = some y) (hf : w.frozen? ⟨g, j, none⟩ = false)
    (h : K a (w.setCell ⟨g, j, none⟩ (.int .i64 x))) : wpOp Try.prog ops Q m K a w := by
  unfold wpOp
  rw [ho]
  simp only [Region.wanted, if_true]
  left
  unfold Oper.wp
  rw [run_store2 a none ty pos es t u w g j x y ht hu hc hf, Oper.upon_skip]
  exact h

theorem prow_next {a b k : Nat} (h1 : a ≤ k) (h2 : b ≤ k) : ∀ j, j < 33 → upd (prow a b k) k (pas k a * pas a (k - b)) j = prow a b (k + 1) j := by
  intro j _
  unfold upd prow
  by_cases h : j = k
  · subst h; rw [if_pos rfl, if_pos ⟨h1, h2, by omega⟩]
  · rw [if_neg h]
    by_cases h3 : a ≤ j ∧ b ≤ j ∧ j < k
    · rw [if_pos h3, if_pos ⟨h3.1, h3.2.1, by omega⟩]
    · rw [if_neg h3, if_neg (by omega)]
theorem prow_start {a b k : Nat} (h : k ≤ a ∨ k ≤ b) : ∀ j, j < 33 → z0 j = prow a b k j := by
  intro j _
  unfold z0 prow
  rw [if_neg (by omega)]

def prK (a b k g5 g6 p q : Nat) : Tmp → Ke := fun t => ([.con (.int .i64 (a : Int)), .con (.int .i64 (b : Int)), .any, .any, .any, .con (.pointer (some ⟨g5, 0, none⟩)), .arr g6 (pas a), .con (.int .i64 (k : Int)), .any, .any, .any, .any, .any, .any, .any, .any, .any, .any, .any, .any, .con (.int .i64 (k : Int)), .con (.int .i64 (k : Int)), .con (.agg (rowA (pas k))), .con (.int .i64 (a : Int)), .con (.int .i64 (p : Int)), .con (.int .i64 (k : Int)), .con (.int .i64 (b : Int)), .con (.int .i64 ((k - b : Nat) : Int)), .cel g6 (k - b) q, .con (.int .i64 (q : Int)), .con (.int .i64 ((p * q : Nat) : Int)), .con (.pointer (some ⟨g5, k, none⟩)), .any] : List Ke).getD t .any

end Go.Proofs.Ytdpiclmjdcjajaa

/-
  The walk of the program's Product. No conditions.
-/
namespace Go.Proofs.Ytdpiclmjdcjajaa
open Go.RowKit Num

/-- A list of numbers. -/
def Lst (w : World) (v : Value) (n : Nat) (f : Nat → Rat) : Prop :=
  ∃ a cap, v = .slice a n cap ∧ n ≤ cap ∧ cap ≤ 9223372036854775807 ∧ ∀ i, i < n → ∃ g o x y z, a = some ⟨g, o, none⟩ ∧ w.cell? ⟨g, o + i * 3, none⟩ = some x ∧ w.cell? ⟨g, o + (i * 3 + 1), none⟩ = some y ∧ w.cell? ⟨g, o + (i * 3 + 2), none⟩ = some z ∧ RatC w (.agg #[x, y, z]) (f i)
theorem Lst.below {w w' : World} {v : Value} {n : Nat} {f : Nat → Rat} (hb : Below w.heap.size w w') (h : Lst w v n f) : Lst w' v n f := by
  obtain ⟨a, cap, e, h1, h2, h3⟩ := h
  refine ⟨a, cap, e, h1, h2, fun i hi => ?_⟩
  obtain ⟨g, o, x, y, z, ea, c0, c1, c2, hr⟩ := h3 i hi
  exact ⟨g, o, x, y, z, ea, cell_below hb c0, cell_below hb c1, cell_below hb c2, hr.below hb⟩
theorem LstI.lst {B g k cap : Nat} {f : Nat → Rat} {w : World} (h : LstI B g k f k w) (h1 : k ≤ cap) (h2 : cap ≤ 9223372036854775807) : Lst w (.slice (some ⟨g, 0, none⟩) k cap) k f := by
  obtain ⟨xs, l1, l2, l3, l4⟩ := h
  refine ⟨_, _, rfl, h1, h2, fun i hi => ?_⟩
  obtain ⟨x, y, z, e1, e2, e3, hr⟩ := l4 i hi
  refine ⟨g, 0, x, y, z, rfl, ?_, ?_, ?_, hr⟩
  · rw [Nat.zero_add, l1.cell _ (by omega)]; exact e1
  · rw [Nat.zero_add, l1.cell _ (by omega)]; exact e2
  · rw [Nat.zero_add, l1.cell _ (by omega)]; exact e3
theorem Lst.nil (w : World) (f : Nat → Rat) : Lst w (.slice none 0 0) 0 f := ⟨none, 0, rfl, Nat.le_refl _, by omega, fun i hi => by omega⟩

/-- A list and an answer. -/
def ListB (k : Nat) (f : Nat → Rat) (b : Bool) (w : World) (e : Ending) (w' : World) : Prop := ∃ v, e = .returned (.tuple #[v, .bool b]) ∧ Lst w' v k f ∧ Below w.heap.size w w'

def prQ (a b : Nat) : Nat → Rat := fun i => quo ((prow a b (a + b + 1) i : Nat) : Int) 1
theorem prow_small {a b k j : Nat} (ha : a ≤ 16) (hb : b ≤ 16) (hj : j ≤ 32) : prow a b k j ≤ 1000000000000000000 := by
  unfold prow
  split
  · exact Nat.le_trans (Nat.mul_le_mul (pas_small (by omega) (by omega)) (pas_small (by omega) (by omega))) (by decide)
  · omega

end Go.Proofs.Ytdpiclmjdcjajaa

/-
  The walk of the reference's factorial. Condition: the number is at most 32.
-/
namespace Go.Proofs.Ytdpiclmjdcjajaa
open Go.RowKit Num

theorem fact_all : (List.range 35).all (fun n => decide (fact n < 1000000000000000000000000000000000000000000000)) = true := by decide +kernel
theorem fact_lt {n : Nat} (h : n ≤ 34) : fact n < pw 5 := by
  have h := List.all_eq_true.1 fact_all n (by simp; omega)
  exact of_decide_eq_true h
/-- The factorial as a number. -/
def fq (n : Nat) : Rat := quo ((fact n : Nat) : Int) 1
theorem quo_natc (n : Nat) : quo (n : Int) 1 = rat false n 1 := quo_pos n 1
theorem sz_fq {n : Nat} (h : n ≤ 34) : Sz (fq n) 5 := by
  unfold fq
  rw [quo_natc]
  exact sz_rat (fact_lt h) (by decide) (by omega)
theorem quo_castN (a : Nat) : quo (a : Int) 1 = (a : Rat) := by
  rw [quo_mk (by omega)]
  exact Rat.mkRat_one a
theorem fq_succ (n : Nat) : fq n * quo ((n : Int) + 1) 1 = fq (n + 1) := by
  unfold fq
  have e : ((n : Int) + 1) = ((n + 1 : Nat) : Int) := by omega
  rw [e, quo_castN, quo_castN, quo_castN]
  show (fact n : Rat) * ((n + 1 : Nat) : Rat) = (((n + 1) * fact n : Nat) : Rat)
  rw [Rat.natCast_mul, Rat.mul_comm]

structure RtZ (w : World) (wr : World) : Prop where
  bz : BoxV wr w.heap.size w.heap.size 24 [.bool false, .slice none 0 0, .slice none 0 0]
  bel : Below w.heap.size w wr
theorem RtZ.below {w wr w' : World} (h : RtZ w wr) (hb : Below wr.heap.size wr w') : RtZ w w' := ⟨h.bz.below hb, below_next' h.bel hb⟩
theorem RtZ.set {w w2 : World} {x y z v0 v1 v2 : Value} {g : Nat} (h : RtZ w w2) (hB : BoxV w2 w.heap.size g 24 [x, y, z]) (hg : w.heap.size < g) :
    RtZ w (((w2.setCell ⟨g, 0, none⟩ v0).setCell ⟨g, 1, none⟩ v1).setCell ⟨g, 2, none⟩ v2) :=
  ⟨h.bz.kept (grown_set3 w2 g v0 v1 v2) (by simp; omega), below_set3 h.bel hB.block.1 _ _ _⟩

theorem e_mulF {κ : Tmp → Ke} {G : Nat → Option Tmp} {d t u : Tmp} {ty : TypeId} {pos : String} {es : Array Edge} {k k' : Nat} {p q r : Rat} (ht : κ t = .ra k p) (hu : κ u = .rc k' q) (hd : κ d = .ratC r) (hr : p * q = r) (hk : k + k' ≤ 20000) :
    FlowStep Try.prog (Fe κ) G ⟨some d, .call ⟨.value (.func 45), #[.tmp t, .tmp u], #[24, 24]⟩, ty, pos, es, none⟩ := by
  subst hr
  exact e_mul2 ht hu hd hk
def fcK (s r : Rat) (i : Nat) : Tmp → Ke := fun t => ([.any, .any, .any, .box 5 s, .con (.int .i64 ((i : Int) + 1)), .any, .any, .any, .any, .any, .any, .ra 5 s, .con (.int .i64 ((i : Int) + 1)), .rc 1 (quo ((i : Int) + 1) 1), .ratC r] : List Ke).getD t .any

set_option maxRecDepth 100000 in
set_option maxHeartbeats 8000000 in
theorem factorial_any (n : Nat) (w : World) (hn : n ≤ 32) : Calls Try.prog 67 #[.int .i64 n] w (RatP (fq n) w) := by
  have hb0 := below_alloc1 w (.cells #[.bool false, .slice none 0 0, .slice none 0 0] 24)
  have hBz := BoxV.new w w.heap.size 24 (Nat.le_refl _) [.bool false, .slice none 0 0, .slice none 0 0]
  have HA := Lib.hid (show RtZ w _ from ⟨hBz, hb0⟩)
  clear hb0 hBz
  go_enter Try.func67, Try.ntmps67
  go_wp2_with fail
  refine (refFromInt_any 1 _ (by omega) (by omega)).mono ?_
  rintro e w1 ⟨v, rfl, hv, hb1⟩
  rw [quo_one] at hv
  have H1 := Lib.hid (And.intro (HA.out.below hb1) hv)
  have hlt := H1.out.1.bz.block.2
  obtain ⟨y1, y2, y3, y4, y5, y6, rfl, _⟩ := hv
  clear hb1
  go_wp2
  have hb2 := below_alloc1 w1 (.cells #[.bool (decide ((1 : Rat).num < 0)), .slice y1 y2 y3, .slice y4 y5 y6] 24)
  have hB2 := BoxV.new w1 w.heap.size 24 (by omega) [.bool (decide ((1 : Rat).num < 0)), .slice y1 y2 y3, .slice y4 y5 y6]
  have h1 : fq 1 = 1 := by unfold fq; exact quo_one
  have HI := Lib.hid (And.intro (H1.out.1.below hb2) (show RtO w w1.heap.size (fq 1) _ by rw [h1]; exact ⟨y1, y2, y3, y4, y5, y6, hB2, H1.out.2.below hb2⟩))
  clear hb2 hB2 h1
  go_loopw [4] (fun i wr => ∃ q : Nat, i = .int .i64 ((q : Int) + 1) ∧ 1 ≤ q ∧ (q ≤ n ∨ q = 1) ∧ RtZ w wr ∧ RtO w w1.heap.size (fq q) wr) (fun i _ => n + 1 - (intOf i).toNat)
  case atStart => exact ⟨1, rfl, Nat.le_refl _, .inr rfl, HI.out⟩
  case round =>
    obtain ⟨q, rfl, hq1, hq, hT, an, ln, cn, ad, ld, cd, hBs, hC⟩ := hrel
    by_cases hlt2 : (q : Int) + 1 ≤ (n : Int)
    · have hbx := boxC_of hBs hC (sz_fq (n := q) (by omega))
      have HR := Lib.hid (And.intro hbx (And.intro hBs (And.intro hT hq)))
      have hsq1 : Sz (quo ((q : Int) + 1) 1) 1 := sz_nat (n := q + 1) (by omega)
      have HZ := Lib.hid hsq1
      clear hbx hBs hT hC hsq1 hq
      go_wp2_with fail
      refine region_flow_tail (Fe (fcK (fq q) (fq (q + 1)) q)) (by rfl) (Fe.mono _) 16 4 [] (by rfl) (by kernel_rfl) (by kernel_rfl) (by kernel_rfl) (by kernel_rfl) (fun t ht => by cases ht) [3, 4] (by kernel_rfl) ?g0 (Fe.draw _) ?gs ?gf
      case g0 =>
        intro t ht
        simp only [List.mem_cons, List.not_mem_nil, or_false] at ht
        rcases ht with rfl | rfl
        · exact HR.out.1
        · rfl
      case gs =>
        exact ⟨flowN_of (e_loadC rfl rfl) (by decide), flowN_of (e_move rfl) (by decide), flowN_of (e_fromI rfl rfl (by omega) (by omega) HZ.out) (by decide), flowN_of (e_mulF rfl rfl rfl (fq_succ q) (by omega)) (by decide), trivial⟩
      intro a3 w3 hb3 hsz3 hdf3 hfacts hout _
      have f14 : RatC w3 (a3.tmps.getD 14 undef) (fq (q + 1)) := hfacts 3 14 (by decide) rfl
      have e0 : a3.tmps.getD 0 undef = .int .i64 n := hout 0 (free_of (by kernel_rfl))
      have e1 : a3.tmps.getD 1 undef = undef := hout 1 (free_of (by kernel_rfl))
      have e2 : a3.tmps.getD 2 undef = .pointer (some ⟨w.heap.size, 0, none⟩) := hout 2 (free_of (by kernel_rfl))
      have e3 : a3.tmps.getD 3 undef = .pointer (some ⟨w1.heap.size, 0, none⟩) := hout 3 (free_of (by kernel_rfl))
      have e4 : a3.tmps.getD 4 undef = .int .i64 ((q : Int) + 1) := hout 4 (free_of (by kernel_rfl))
      have e5 : a3.tmps.getD 5 undef = .agg #[.bool (decide ((1 : Rat).num < 0)), .slice y1 y2 y3, .slice y4 y5 y6] := hout 5 (free_of (by kernel_rfl))
      have e15 : a3.tmps.getD 15 undef = undef := hout 15 (free_of (by kernel_rfl))
      have hszn : a3.tmps.size = 16 := hsz3
      have hdfn : a3.defers = [] := hdf3
      have hB3 := HR.out.2.1.below hb3
      change runFrom _ _ _ 1 4 a3 w3
      simp only [runFrom]
      refine e_store (t := 3) (u := 14) rfl e3 hB3 f14 fun an' ln' cn' ad' ld' cd' hR => ?_
      have HN := Lib.hid (And.intro ((HR.out.2.2.1.below hb3).set (v0 := .bool (decide ((fq (q + 1)).num < 0))) (v1 := .slice an' ln' cn') (v2 := .slice ad' ld' cd') hB3 hlt) (RtO.next hB3 (noLimb_rat _ _ _ _ _ _ _) hR))
      generalize (((w3.setCell ⟨w1.heap.size, 0, none⟩ (.bool (decide ((fq (q + 1)).num < 0)))).setCell ⟨w1.heap.size, 1, none⟩ (.slice an' ln' cn')).setCell ⟨w1.heap.size, 2, none⟩ (.slice ad' ld' cd')) = w4 at HN ⊢
      obtain ⟨uu, hu⟩ : ∃ u : Nat → Value, ∀ t, a3.tmps.getD t undef = u t := ⟨_, fun _ => rfl⟩
      have ha := act_eq a3 16 hszn hdfn
      simp only [hu] at ha e0 e1 e2 e3 e4 e5 e15
      have ha' : a3 = ⟨#[uu 0, uu 1, uu 2, uu 3, uu 4, uu 5, uu 6, uu 7, uu 8, uu 9, uu 10, uu 11, uu 12, uu 13, uu 14, uu 15], []⟩ := ha
      rw [e0, e1, e2, e3, e4, e5, e15] at ha'
      clear ha hu e0 e1 e2 e3 e4 e5 e15 hfacts hout hszn hdfn hsz3 hdf3 f14 hB3 hR hb3
      subst ha'
      go_wp2
      go_roundw
      case rel => exact ⟨q + 1, by go_num, by omega, .inl (by omega), HN.out⟩
      case measure => simp [intOf]; omega
    · have hqn : fq q = fq n := by
        rcases hq with h | h
        · have : q = n := by omega
          rw [this]
        · subst h
          rcases Nat.eq_zero_or_pos n with h0 | h0
          · subst h0; rfl
          · have : n = 1 := by omega
            rw [this]
      rw [hqn] at hBs hC
      obtain ⟨s, hs⟩ : ∃ s, decide ((fq n).num < 0) = s := ⟨_, rfl⟩
      rw [hs] at hBs hC
      obtain ⟨⟨x0, x1, x2⟩, _⟩ := hBs.three
      obtain ⟨⟨z0', z1', z2'⟩, i0, i1, i2⟩ := hT.bz.three
      have HF := Lib.hid (And.intro hT hC)
      clear hBs hT hC hqn hq
      go_wp2
      have hs3 := HF.out.1.bz.store3 (.bool s) (.slice an ln cn) (.slice ad ld cd)
      obtain ⟨⟨x0, x1, x2⟩, _⟩ := hs3.three
      exact bodyPost_ret (v := .agg #[.bool s, .slice an ln cn, .slice ad ld cd]) (by simp [results, Try.results67, go_sem, x0, x1, x2]) rfl ⟨_, rfl, HF.out.2.other HF.out.1.bz noLimb_nil3 (grown_set3 _ _ _ _ _), below_set3 HF.out.1.bel (Nat.le_refl _) _ _ _⟩
end Go.Proofs.Ytdpiclmjdcjajaa

/-
  A list of numbers that grows by append. Condition: at most a hundred numbers.
-/
namespace Go.Proofs.Ytdpiclmjdcjajaa
open Go.RowKit Num

theorem RatC.cells {w w' : World} {v : Value} {q : Rat} {g t : Nat} {cs : Array Value} {fr : Nat × Nat} (h : RatC w v q) (hb : w.heap[g]? = some (.cells cs t fr)) (hx : NoLimb cs.toList) (hg : w.grownBy w' (some g)) : RatC w' v q := by
  obtain ⟨an, ln, cn, ad, ld, cd, e, ⟨l, h1, h2, h3⟩, ⟨l', h1', h2', h3'⟩⟩ := h
  exact ⟨an, ln, cn, ad, ld, cd, e, ⟨l, h1.other hg hb hx, h2, h3⟩, ⟨l', h1'.other hg hb hx, h2', h3'⟩⟩

/-- The numbers of a row's cells. -/
def Els (w : World) (cur : Array Value) (k : Nat) (f : Nat → Rat) : Prop := ∀ j, j < k → ∃ x y z, cur[j * 3]? = some x ∧ cur[j * 3 + 1]? = some y ∧ cur[j * 3 + 2]? = some z ∧ RatC w (.agg #[x, y, z]) (f j)
/-- A list of k numbers that the call itself has built. -/
def OutR (B k : Nat) (f : Nat → Rat) (v : Value) (w : World) : Prop :=
  (v = .slice none 0 0 ∧ k = 0) ∨ ∃ g cap cur, v = .slice (some ⟨g, 0, none⟩) k cap ∧ B ≤ g ∧ w.heap[g]? = some (.cells cur 24 (0, 0)) ∧ k ≤ cap ∧ cap ≤ maxLen ∧ cur.size = cap * 3 ∧ NoLimb cur.toList ∧ Els w cur k f
theorem OutR.nil (B : Nat) (f : Nat → Rat) (w : World) : OutR B 0 f (.slice none 0 0) w := .inl ⟨rfl, rfl⟩
theorem OutR.below {B k : Nat} {f : Nat → Rat} {v : Value} {w w' : World} (h : OutR B k f v w) (hb : Below w.heap.size w w') : OutR B k f v w' := by
  rcases h with h | ⟨g, cap, cur, e, h1, h2, h3, h4, h5, h6, h7⟩
  · exact .inl h
  · refine .inr ⟨g, cap, cur, e, h1, ?_, h3, h4, h5, h6, fun j hj => ?_⟩
    · rw [hb.block g (Array.getElem?_eq_some_iff.1 h2).1]; exact h2
    · obtain ⟨x, y, z, a, b, c, hr⟩ := h7 j hj
      exact ⟨x, y, z, a, b, c, hr.below hb⟩
theorem OutR.set {B k : Nat} {f : Nat → Rat} {v : Value} {w : World} {g2 : Nat} {x y z : Value} (h : OutR B k f v w) (hB : BoxV w B g2 24 [x, y, z]) (hx : NoLimb [x, y, z]) (hne : v.ownBlock ≠ some g2) (v0 v1 v2 : Value) :
    OutR B k f v (((w.setCell ⟨g2, 0, none⟩ v0).setCell ⟨g2, 1, none⟩ v1).setCell ⟨g2, 2, none⟩ v2) := by
  have hgr := grown_set3 w g2 v0 v1 v2
  rcases h with h | ⟨g, cap, cur, rfl, h1, h2, h3, h4, h5, h6, h7⟩
  · exact .inl h
  · refine .inr ⟨g, cap, cur, rfl, h1, ?_, h3, h4, h5, h6, fun j hj => ?_⟩
    · rw [hgr.block g (Array.getElem?_eq_some_iff.1 h2).1 (by simpa [Value.ownBlock] using hne)]; exact h2
    · obtain ⟨x, y, z, a, b, c, hr⟩ := h7 j hj
      exact ⟨x, y, z, a, b, c, hr.other hB hx hgr⟩
theorem OutR.own {B k : Nat} {f : Nat → Rat} {v : Value} {w : World} (h : OutR B k f v w) : ∀ g, v.ownBlock = some g → B ≤ g ∧ g < w.heap.size := by
  intro g hg
  rcases h with ⟨rfl, _⟩ | ⟨g', cap, cur, rfl, h1, h2, _⟩
  · cases hg
  · obtain rfl : g' = g := by simpa [Value.ownBlock] using hg
    exact ⟨h1, (Array.getElem?_eq_some_iff.1 h2).1⟩
theorem OutR.lst {B k : Nat} {f : Nat → Rat} {v : Value} {w : World} (h : OutR B k f v w) : Lst w v k f := by
  rcases h with ⟨rfl, rfl⟩ | ⟨g, cap, cur, rfl, h1, h2, h3, h4, h5, h6, h7⟩
  · exact Lst.nil _ _
  · refine ⟨_, cap, rfl, h3, by simpa [maxLen] using h4, fun i hi => ?_⟩
    obtain ⟨x, y, z, a, b, c, hr⟩ := h7 i hi
    refine ⟨g, 0, x, y, z, rfl, ?_, ?_, ?_, hr⟩ <;> rw [Nat.zero_add, cell_of_row _ _ _ _ _ _ h2]
    · exact a
    · exact b
    · exact c

theorem els_app {w w' : World} {cur : Array Value} {k : Nat} {f : Nat → Rat} {b0 b1 b2 : Value} (R : List Value) (h : Els w cur k f) (hs : k * 3 ≤ cur.size) (ht : ∀ j, j < k → ∀ v, RatC w v (f j) → RatC w' v (f j)) (hr : RatC w' (.agg #[b0, b1, b2]) (f k)) :
    Els w' (cur.toList.take (k * 3) ++ [b0, b1, b2] ++ R).toArray (k + 1) f := by
  have hl : (cur.toList.take (k * 3)).length = k * 3 := by rw [List.length_take, Array.length_toList]; omega
  intro j hj
  have hlook : ∀ i, i < k * 3 → (cur.toList.take (k * 3) ++ [b0, b1, b2] ++ R).toArray[i]? = cur[i]? := by
    intro i hi
    rw [List.getElem?_toArray, List.append_assoc, List.getElem?_append_left (by omega), List.getElem?_take, if_pos hi]
    simp
  by_cases h1 : j < k
  · obtain ⟨x, y, z, a, b, c, hx⟩ := h j h1
    exact ⟨x, y, z, by rw [hlook _ (by omega)]; exact a, by rw [hlook _ (by omega)]; exact b, by rw [hlook _ (by omega)]; exact c, ht j h1 _ hx⟩
  · obtain rfl : j = k := by omega
    refine ⟨b0, b1, b2, ?_, ?_, ?_, hr⟩
    · rw [List.getElem?_toArray, List.append_assoc, List.getElem?_append_right (by omega), hl]; simp
    · rw [List.getElem?_toArray, List.append_assoc, List.getElem?_append_right (by omega), hl, show j * 3 + 1 - j * 3 = 1 by omega]; rfl
    · rw [List.getElem?_toArray, List.append_assoc, List.getElem?_append_right (by omega), hl, show j * 3 + 2 - j * 3 = 2 by omega]; rfl

theorem noLimb_zero (n : Nat) : NoLimb (Builtin.zeroCells #[.bool false, .slice none 0 0, .slice none 0 0] n).toList := by
  intro x hx m
  unfold Builtin.zeroCells at hx
  simp only [Array.toList_map, List.mem_map] at hx
  obtain ⟨i, _, rfl⟩ := hx
  have h : i % 3 = 0 ∨ i % 3 = 1 ∨ i % 3 = 2 := by omega
  have e : (#[Value.bool false, .slice none 0 0, .slice none 0 0] : Array Value).size = 3 := rfl
  rw [e]
  rcases h with h | h | h <;> rw [h] <;> simp
theorem noLimb_app {a b : List Value} (ha : NoLimb a) (hb : NoLimb b) : NoLimb (a ++ b) := fun x hx => by
  rcases List.mem_append.1 hx with h | h
  · exact ha x h
  · exact hb x h

theorem run_append_rat (w : World) (ty : TypeId) (B k : Nat) (f : Nat → Rat) (v : Value) (hO : OutR B k f v w) (ad : Addr) (c : Nat) (b0 b1 b2 : Value) (hnews : ∀ j u, [b0, b1, b2][j]? = some u → w.cell? (ad.add j) = some u) (hr : RatC w (.agg #[b0, b1, b2]) (f k)) (hk : k ≤ 100) (hB : B ≤ w.heap.size) :
    ∃ v' w', (Builtin.append_ #[32, 32] ty #[v, .slice (some ad) 1 c]).run Try.prog w = .ok v' w' ∧ OutR B (k + 1) f v' w' ∧ w.grownBy w' v.ownBlock ∧ w.heap.size ≤ w'.heap.size := by
  have hinfo : (Try.prog.info? 24).map (fun i => (i.zero, i.size, i.bytes)) = some (some (.agg #[.bool false, .slice none 0 0, .slice none 0 0]), 3, 56) := by kernel_rfl
  obtain ⟨i, hi, hzz⟩ := Option.map_eq_some_iff.1 hinfo
  simp only [Prod.mk.injEq] at hzz
  obtain ⟨hz, hs, hby⟩ := hzz
  have ht : Try.prog.underlying 32 = some (.slice 24) := by kernel_rfl
  have hnl : NoLimb [b0, b1, b2] := by
    obtain ⟨an, ln, cn, ad, ld, cd, e, _⟩ := hr
    obtain ⟨rfl, rfl, rfl⟩ : b0 = .bool (decide ((f k).num < 0)) ∧ b1 = .slice an ln cn ∧ b2 = .slice ad ld cd := by simpa using e
    exact noLimb_rat _ _ _ _ _ _ _
  have h1 : ∀ u ∈ [b0, b1, b2], u.oneCell' = true := by
    obtain ⟨an, ln, cn, ad, ld, cd, e, _⟩ := hr
    obtain ⟨rfl, rfl, rfl⟩ : b0 = .bool (decide ((f k).num < 0)) ∧ b1 = .slice an ln cn ∧ b2 = .slice ad ld cd := by simpa using e
    intro u hu
    simp at hu
    rcases hu with rfl | rfl | rfl <;> rfl
  have grown : ∀ (cur : Array Value) (old : Nat) (row : Option Nat), Els w cur k f → NoLimb cur.toList → k * 3 ≤ cur.size → old ≤ k →
      OutR B (k + 1) f (.slice (some ⟨w.heap.size, 0, none⟩) (k + 1) (grownCap w (k + 1) old 24)) (w.drew.alloc (.cells ((cur.toList.take (k * 3)).toArray ++ [b0, b1, b2].toArray ++ Builtin.zeroCells #[.bool false, .slice none 0 0, .slice none 0 0] (grownCap w (k + 1) old 24 - (k + 1))) 24)) ∧
      w.grownBy (w.drew.alloc (.cells ((cur.toList.take (k * 3)).toArray ++ [b0, b1, b2].toArray ++ Builtin.zeroCells #[.bool false, .slice none 0 0, .slice none 0 0] (grownCap w (k + 1) old 24 - (k + 1))) 24)) row := by
    intro cur old row hE hN hcs ho
    have hge := grownCap_ge w (k + 1) old 24
    have hcm : grownCap w (k + 1) old 24 ≤ maxLen := grownCap_le_maxLen w (k + 1) old 24 (by unfold maxLen; omega)
    obtain ⟨Z, hZ⟩ : ∃ Z, Builtin.zeroCells #[.bool false, .slice none 0 0, .slice none 0 0] (grownCap w (k + 1) old 24 - (k + 1)) = Z := ⟨_, rfl⟩
    have hZs : Z.size = (grownCap w (k + 1) old 24 - (k + 1)) * 3 := by rw [← hZ]; exact size_zeroCells _ _
    have hZn : NoLimb Z.toList := by rw [← hZ]; exact noLimb_zero _
    rw [hZ]
    have hbel : Below w.heap.size w (w.drew.alloc (.cells ((cur.toList.take (k * 3)).toArray ++ [b0, b1, b2].toArray ++ Z) 24)) := ((Below.refl _ w).drew).alloc (Nat.le_refl _) _
    refine ⟨.inr ⟨w.heap.size, _, _, rfl, hB, heap_alloc_new w.drew _, hge, hcm, ?_, ?_, ?_⟩, ⟨rfl, rfl, rfl, by simp, fun j hj _ => hbel.block j hj⟩⟩
    · simp only [Array.size_append, List.size_toArray, hZs, List.length_take, Array.length_toList, List.length_cons, List.length_nil]
      omega
    · simp only [Array.toList_append]
      refine noLimb_app (noLimb_app (fun x hx => hN x (List.mem_of_mem_take hx)) hnl) hZn
    · have := els_app (w' := w.drew.alloc (.cells ((cur.toList.take (k * 3)).toArray ++ [b0, b1, b2].toArray ++ Z) 24)) (b0 := b0) (b1 := b1) (b2 := b2) Z.toList hE hcs (fun _ _ _ h => h.below hbel) (hr.below hbel)
      have e : (cur.toList.take (k * 3) ++ [b0, b1, b2] ++ Z.toList).toArray = (cur.toList.take (k * 3)).toArray ++ [b0, b1, b2].toArray ++ Z := by apply Array.ext'; simp
      rw [e] at this
      exact this
  rcases hO with ⟨rfl, rfl⟩ | ⟨g, cap, cur, rfl, g1, g2, g3, g4, g5, g6, g7⟩
  · have hrun := run_append_nil (P := Try.prog) w 32 ty 24 i _ ht hi hz ad 1 c [b0, b1, b2] (by rw [hs]; rfl) hnews (by omega) (by omega) (by rw [hby]; omega)
    have hg := grown #[] 0 (Value.ownBlock (.slice none 0 0)) (fun j hj => by omega) (fun x hx => by simp at hx) (by simp) (by omega)
    simp only [Nat.zero_add, Nat.zero_mul, List.take_zero, Array.empty_append] at hg
    exact ⟨_, _, hrun, hg.1, hg.2, hg.2.size⟩
  · by_cases hroom : k + 1 ≤ cap
    · have hrun := run_append_room (P := Try.prog) w 32 ty 24 i ht hi g k cap cur g2 ad 1 c [b0, b1, b2] (by rw [hs]; rfl) hnews h1 hroom (by rw [hs, g5]; simp; omega)
      rw [hs] at hrun
      have hgr : w.grownBy (w.setRow g (cur.toList.take (k * 3) ++ [b0, b1, b2] ++ cur.toList.drop (k * 3 + [b0, b1, b2].length)).toArray) (some g) :=
        ⟨rfl, rfl, rfl, by simp, fun k _ hk => setRow_other w g k _ (fun e => hk (by rw [e]))⟩
      refine ⟨_, _, hrun, .inr ⟨g, cap, _, rfl, g1, setRow_heap w g cur _ 24 _ g2, hroom, g4, ?_, ?_, ?_⟩, hgr, hgr.size⟩
      · simp only [List.size_toArray, List.length_append, List.length_take, List.length_drop, Array.length_toList, List.length_cons, List.length_nil]
        omega
      · exact noLimb_app (noLimb_app (fun x hx => g6 x (List.mem_of_mem_take hx)) hnl) (fun x hx => g6 x (List.mem_of_mem_drop hx))
      · exact els_app _ g7 (by omega) (fun _ _ _ h => h.cells g2 g6 hgr) (hr.cells g2 g6 hgr)
    · have hl : (cur.toList.take (k * 3)).length = k * 3 := by rw [List.length_take, Array.length_toList]; omega
      have hrun := run_append_grow (P := Try.prog) w 32 ty 24 i _ ht hi hz ⟨g, 0, none⟩ k cap (cur.toList.take (k * 3)) (by rw [hs]; exact hl)
        (fun j u hu => by
          have hadd : (⟨g, 0, none⟩ : Addr).add j = ⟨g, j, none⟩ := by unfold Addr.add; split <;> simp_all
          rw [hadd, cell_of_row w g j cur 24 (0, 0) g2]
          rw [List.getElem?_take] at hu
          split at hu
          · simpa using hu
          · cases hu)
        ad 1 c [b0, b1, b2] (by rw [hs]; rfl) hnews (by omega) (by omega) (growslice_fits (by omega) (by rw [hby]; omega))
      have hg := grown cur cap (Value.ownBlock (.slice (some ⟨g, 0, none⟩) k cap)) g7 g6 (by omega) (by omega)
      exact ⟨_, _, hrun, hg.1, hg.2, hg.2.size⟩

theorem wpList_append_rat {ops : Array Oper} {rest : List Oper} {o : Oper} {a : Act} {Q : Exit → Act → World → Prop} {w : World} (hgd : o.guard = none) (s x : Operand)
    (ho : o.op = .call { callee := .builtin .append, args := #[s, x], argTypes := #[32, 32] }) (B k : Nat) (f : Nat → Rat) (v : Value) (hs : a.eval s = v) (hO : OutR B k f v w)
    (ad : Addr) (c : Nat) (b0 b1 b2 : Value) (hx : a.eval x = .slice (some ad) 1 c) (hnews : ∀ j u, [b0, b1, b2][j]? = some u → w.cell? (ad.add j) = some u) (hr : RatC w (.agg #[b0, b1, b2]) (f k)) (hk : k ≤ 100) (hB : B ≤ w.heap.size)
    (h : ∀ v' w', OutR B (k + 1) f v' w' → w.grownBy w' v.ownBlock → wpList Try.prog ops Q rest (a.put o.dst v') w') : wpList Try.prog ops Q (o :: rest) a w := by
  refine wpList_plain hgd fun K hK => ?_
  obtain ⟨v', w', hrun, h2, h3, _⟩ := run_append_rat w o.type B k f v hO ad c b0 b1 b2 hnews hr hk hB
  unfold Oper.wp execOp
  simp only [ho, resolve, invoke, builtin, Sem.run_bind, Sem.run_pure, Result.andThen_ok, List.map_toArray, List.map_cons, List.map_nil, hs, hx, hrun]
  exact hK _ _ (h v' w' h2 h3)
end Go.Proofs.Ytdpiclmjdcjajaa

/-
  The walk of the reference's Product. Condition: both numbers are at most 16.
-/
namespace Go.Proofs.Ytdpiclmjdcjajaa
open Go.RowKit Num

section
variable {κ : Tmp → Ke} {G : Nat → Option Tmp} {d t u : Tmp} {ty : TypeId} {pos : String} {es : Array Edge} {k k' : Nat} {p q : Rat}
theorem c1_67 (a : Act) (d : Option Tmp) (ty : TypeId) (pos : String) (es : Array Edge) (t : Tmp) (w : World) :
    Sem.run Try.prog (execOp a.eval ⟨d, .call ⟨.value (.func 67), #[.tmp t], #[3]⟩, ty, pos, es, none⟩) w = .ok (.enter 67 #[a.tmps.getD t undef]) w := by go_simp
theorem e_fact {n : Nat} (ht : κ t = .con (.int .i64 n)) (hd : κ d = .rc 5 (fq n)) (hn : n ≤ 32) : FlowStep Try.prog (Fe κ) G ⟨some d, .call ⟨.value (.func 67), #[.tmp t], #[3]⟩, ty, pos, es, none⟩ := by
  refine e_step rfl fun a w Q hf => ?_
  have h := hf t (by simp [Op.operands, Call.operands])
  rw [ht] at h
  have h : a.tmps.getD t undef = .int .i64 n := h
  unfold Oper.wp
  rw [c1_67, h, Oper.upon_enter]
  refine (factorial_any n w hn).mono ?_
  rintro e w' ⟨v, rfl, hv, hb⟩
  exact ⟨v, rfl, hb, fun d' hd' => by cases hd'; rw [hd]; exact ⟨hv, sz_fq (by omega)⟩⟩
theorem e_div3 (ht : κ t = .rc k p) (hu : κ u = .ra k' q) (hd : κ d = .tup (p / q)) (hk : k + k' ≤ 20000) :
    FlowStep Try.prog (Fe κ) G ⟨some d, .call ⟨.value (.func 68), #[.tmp t, .tmp u], #[24, 24]⟩, ty, pos, es, none⟩ :=
  e_c2 (fun a w => c2_68 _ _ _ _ _ _ _ _) fun w x y hx hy => by
    rw [ht] at hx
    rw [hu] at hy
    have hy : RatA w y k' q := hy
    obtain ⟨hx1, hx2⟩ := (show RatC w x p ∧ Sz p k from hx)
    refine (refDiv_a (k := k + k') ((hx1.a hx2).le (by omega)) (hy.le (by omega)) hk).mono ?_
    rintro e w' ⟨v, rfl, hv, hb⟩
    exact ⟨_, rfl, by rw [hd]; exact ⟨v, _, rfl, hv⟩, hb⟩
end

theorem three_new (w : World) (x y z : Value) (t : TypeId) (g : Nat) (hg : w.heap.size = g) : ∀ j u, [x, y, z][j]? = some u → (w.alloc (.cells #[x, y, z] t)).cell? ((⟨g, 0, none⟩ : Addr).add j) = some u := by
  subst hg
  intro j u hj
  match j, hj with
  | 0, hj => simp at hj; subst hj; simp [Addr.add]
  | 1, hj => simp at hj; subst hj; simp [Addr.add]
  | 2, hj => simp at hj; subst hj; simp [Addr.add]

end Go.Proofs.Ytdpiclmjdcjajaa

/-
  The walk of keep.SameRats on two lists of the same numbers. No conditions.
-/
namespace Go.Proofs.Ytdpiclmjdcjajaa
open Go.RowKit Num

/-- One element of a list of canonical numbers. -/
def ElemC (w : World) (a : Option Addr) (i : Nat) (p : Rat) : Prop :=
  ∃ b o x0 x1 x2, a = some ⟨b, o, none⟩ ∧ w.cell? ⟨b, o + i * 3, none⟩ = some x0 ∧ w.cell? ⟨b, o + i * 3 + 1, none⟩ = some x1 ∧ w.cell? ⟨b, o + i * 3 + 2, none⟩ = some x2 ∧ RatC w (.agg #[x0, x1, x2]) p
theorem ElemC.below {w w' : World} {a : Option Addr} {i : Nat} {p : Rat} (hb : Below w.heap.size w w') (h : ElemC w a i p) : ElemC w' a i p := by
  obtain ⟨b, o, x0, x1, x2, e, c0, c1, c2, hr⟩ := h
  exact ⟨b, o, x0, x1, x2, e, cell_below hb c0, cell_below hb c1, cell_below hb c2, hr.below hb⟩
def Ke.slC (a : Option Addr) (n cap i : Nat) (p : Rat) : Ke := ⟨fun w v => v = .slice a n cap ∧ ElemC w a i p, fun hb h => ⟨h.1, h.2.below hb⟩⟩
def Ke.elC (p : Rat) : Ke := ⟨fun w v => ∃ b o x0 x1 x2, v = .pointer (some ⟨b, o, none⟩) ∧ w.cell? ⟨b, o, none⟩ = some x0 ∧ w.cell? ⟨b, o + 1, none⟩ = some x1 ∧ w.cell? ⟨b, o + 2, none⟩ = some x2 ∧ RatC w (.agg #[x0, x1, x2]) p,
  fun hb ⟨b, o, x0, x1, x2, e, c0, c1, c2, hr⟩ => ⟨b, o, x0, x1, x2, e, cell_below hb c0, cell_below hb c1, cell_below hb c2, hr.below hb⟩⟩

section
variable {κ : Tmp → Ke} {G : Nat → Option Tmp} {d s t u c : Tmp} {ty : TypeId} {pos : String} {es : Array Edge} {k x y : Nat} {p q : Rat}
theorem e_indexC {a' : Option Addr} {n cap i : Nat} (ht : κ t = .slC a' n cap i p) (hu : κ u = .con (.int .i64 i)) (hd : κ d = .elC p) (hi : i < n) : FlowStep Try.prog (Fe κ) G ⟨some d, .indexAddr 32 (.tmp t) (.tmp u), ty, pos, es, none⟩ := by
  refine e_step rfl fun a w Q hf => ?_
  have h := hf t (by simp [Op.operands])
  have h' := hf u (by simp [Op.operands])
  rw [ht] at h
  rw [hu] at h'
  obtain ⟨e, b, o, x0, x1, x2, rfl, c0, c1, c2, hr⟩ := (show _ ∧ ElemC w _ _ _ from h)
  have h' : a.tmps.getD u undef = .int .i64 i := h'
  unfold Oper.wp
  rw [run_index _ _ _ _ _ _ _ _ b o n cap i e h' hi, Oper.upon_value]
  exact ⟨_, rfl, Below.refl _ _, fun d' hd' => by cases hd'; rw [hd]; exact ⟨b, o + i * 3, x0, x1, x2, rfl, c0, c1, c2, hr⟩⟩
theorem e_loadEC (ht : κ t = .elC p) (hd : κ d = .ratC p) : FlowStep Try.prog (Fe κ) G ⟨some d, .load 24 (.tmp t), ty, pos, es, none⟩ := by
  refine e_step rfl fun a w Q hf => ?_
  have h := hf t (by simp [Op.operands])
  rw [ht] at h
  obtain ⟨b, o, x0, x1, x2, e, c0, c1, c2, hr⟩ := (show ∃ b o x0 x1 x2, a.tmps.getD t undef = .pointer (some ⟨b, o, none⟩) ∧ w.cell? ⟨b, o, none⟩ = some x0 ∧ w.cell? ⟨b, o + 1, none⟩ = some x1 ∧ w.cell? ⟨b, o + 2, none⟩ = some x2 ∧ RatC w (.agg #[x0, x1, x2]) p from h)
  unfold Oper.wp
  rw [run_load24' _ _ _ _ _ _ _ b o x0 x1 x2 e c0 c1 c2, Oper.upon_value]
  exact ⟨_, rfl, Below.refl _ _, fun d' hd' => by cases hd'; rw [hd]; exact hr⟩
theorem c2_19 (a : Act) (d : Option Tmp) (ty : TypeId) (pos : String) (es : Array Edge) (t u : Tmp) (w : World) :
    Sem.run Try.prog (execOp a.eval ⟨d, .call ⟨.value (.func 19), #[.tmp t, .tmp u], #[24, 24]⟩, ty, pos, es, none⟩) w = .ok (.enter 19 #[a.tmps.getD t undef, a.tmps.getD u undef]) w := by go_simp
theorem e_same19 (ht : κ t = .ratC p) (hu : κ u = .ratC p) (hd : κ d = .con (.bool true)) (hs : Sz p k) (hk : k ≤ 50000) : FlowStep Try.prog (Fe κ) G ⟨some d, .call ⟨.value (.func 19), #[.tmp t, .tmp u], #[24, 24]⟩, ty, pos, es, none⟩ :=
  e_c2 (fun a w => c2_19 _ _ _ _ _ _ _ _) fun w x y hx hy => by
    rw [ht] at hx
    rw [hu] at hy
    have hx : RatC w x p := hx
    have hy : RatC w y p := hy
    refine (sameRat_any x y p p k w hx hy hs hk).mono ?_
    rintro e w' ⟨b', rfl, hb', hb⟩
    obtain rfl : b' = true := hb'.2 rfl
    exact ⟨_, rfl, by rw [hd]; rfl, hb⟩
theorem e_not (ht : κ t = .con (.bool true)) (hd : κ d = .con (.bool false)) : FlowStep Try.prog (Fe κ) G ⟨some d, .unOp .not 4 (.tmp t), ty, pos, es, none⟩ := by
  refine e_step rfl fun a w Q hf => ?_
  have h := hf t (by simp [Op.operands])
  rw [ht] at h
  have h : a.tmps.getD t undef = .bool true := h
  unfold Oper.wp
  have hr : Sem.run Try.prog (execOp a.eval ⟨some d, .unOp .not 4 (.tmp t), ty, pos, es, none⟩) w = .ok (.value (.bool false)) w := by go_simp
  rw [hr, Oper.upon_value]
  exact ⟨_, rfl, Below.refl _ _, fun d' hd' => by cases hd'; rw [hd]; rfl⟩
end

theorem Lst.elem {w : World} {a : Option Addr} {n cap : Nat} {f : Nat → Rat} (h : Lst w (.slice a n cap) n f) {i : Nat} (hi : i < n) : ElemC w a i (f i) := by
  obtain ⟨a', cap', e, _, _, h3⟩ := h
  obtain ⟨rfl, rfl⟩ : a = a' ∧ cap = cap' := by simpa using e
  obtain ⟨g, o, x, y, z, ea, c0, c1, c2, hr⟩ := h3 i hi
  exact ⟨g, o, x, y, z, ea, c0, c1, c2, hr⟩

def saD (a b : Option Addr) (n c d i : Nat) (p : Rat) : Tmp → Ke := fun t => ([.slC a n c i p, .slC b n d i p, .any, .any, .any, .con (.int .i64 (i : Int)), .any, .any, .any, .any, .any, .any, .any, .any, .any, .any, .slC a n c i p, .con (.int .i64 (i : Int)), .elC p, .ratC p, .slC b n d i p, .con (.int .i64 (i : Int)), .elC p, .ratC p, .con (.bool true), .con (.bool false), .any] : List Ke).getD t .any

set_option maxRecDepth 100000 in
set_option maxHeartbeats 8000000 in
theorem sameRats_any (u v : Value) (n k : Nat) (f : Nat → Rat) (w : World) (hu : Lst w u n f) (hv : Lst w v n f) (hs : ∀ i, i < n → Sz (f i) k) (hk : k ≤ 50000) : Calls Try.prog 27 #[u, v] w (TrueP w) := by
  have hn : n ≤ 9223372036854775807 := by obtain ⟨_, _, _, h1, h2, _⟩ := hu; omega
  have hu' := hu
  have hv' := hv
  obtain ⟨a1, c1, rfl, _⟩ := hu
  obtain ⟨a2, c2, rfl, _⟩ := hv
  have HA := Lib.hid (And.intro hu' (And.intro hv' hs))
  clear hu' hv' hs
  go_enter Try.func27, Try.ntmps27
  go_wp2_with fail
  go_loopw [13] (fun x wr => ∃ q : Nat, q ≤ n ∧ x = .int .i64 q ∧ Below w.heap.size w wr) (fun x _ => n - (intOf x).toNat)
  case atStart => exact ⟨0, Nat.zero_le _, rfl, Below.refl _ _⟩
  case round =>
    obtain ⟨q, hq, rfl, hbel⟩ := hrel
    by_cases hlt : q < n
    · have hqi : (q : Int) < (n : Int) := by omega
      have h1 := (HA.out.1.elem hlt).below hbel
      have h2 := (HA.out.2.1.elem hlt).below hbel
      have HR := Lib.hid (And.intro h1 (And.intro h2 (And.intro hbel (HA.out.2.2 q hlt))))
      clear h1 h2 hbel
      go_wp2_with fail
      refine region_flow (Fe (saD a1 a2 n c1 c2 q (f q))) (by rfl) (Fe.mono _) 27 (by rfl) (by kernel_rfl) (by kernel_rfl) [0, 1, 5] (by kernel_rfl) ?h0 (Fe.draw _) ?steps ?fin
      case h0 =>
        intro t ht
        simp only [List.mem_cons, List.not_mem_nil, or_false] at ht
        rcases ht with rfl | rfl | rfl
        · exact ⟨rfl, HR.out.1⟩
        · exact ⟨rfl, HR.out.2.1⟩
        · rfl
      case steps =>
        exact ⟨e_move rfl, e_move rfl, e_indexC rfl rfl rfl hlt, e_loadEC rfl rfl, e_move rfl, e_move rfl, e_indexC rfl rfl rfl hlt, e_loadEC rfl rfl, e_same19 rfl rfl rfl HR.out.2.2.2 hk, e_not rfl rfl, trivial⟩
      intro a3 w3 hb3 hsz3 hdf3 hfacts hout
      have e25 : a3.tmps.getD 25 undef = .bool false := hfacts 9 25 rfl
      have e0 : a3.tmps.getD 0 undef = .slice a1 n c1 := hout 0 (free_of (by kernel_rfl))
      have e1 : a3.tmps.getD 1 undef = .slice a2 n c2 := hout 1 (free_of (by kernel_rfl))
      have e2 : a3.tmps.getD 2 undef = undef := hout 2 (free_of (by kernel_rfl))
      have e3 : a3.tmps.getD 3 undef = undef := hout 3 (free_of (by kernel_rfl))
      have e6 : a3.tmps.getD 6 undef = .slice a1 n c1 := hout 6 (free_of (by kernel_rfl))
      have e7 : a3.tmps.getD 7 undef = .int .i64 n := hout 7 (free_of (by kernel_rfl))
      have e8 : a3.tmps.getD 8 undef = .slice a2 n c2 := hout 8 (free_of (by kernel_rfl))
      have e9 : a3.tmps.getD 9 undef = .int .i64 n := hout 9 (free_of (by kernel_rfl))
      have e10 : a3.tmps.getD 10 undef = .bool false := hout 10 (free_of (by kernel_rfl))
      have e11 : a3.tmps.getD 11 undef = .slice a1 n c1 := hout 11 (free_of (by kernel_rfl))
      have e12 : a3.tmps.getD 12 undef = .int .i64 n := hout 12 (free_of (by kernel_rfl))
      have e13 : a3.tmps.getD 13 undef = .int .i64 q := hout 13 (free_of (by kernel_rfl))
      have hszn : a3.tmps.size = 27 := hsz3
      have hdfn : a3.defers = [] := hdf3
      have HN := Lib.hid (below_next' HR.out.2.2.1 hb3)
      obtain ⟨uu, hu⟩ : ∃ u : Nat → Value, ∀ t, a3.tmps.getD t undef = u t := ⟨_, fun _ => rfl⟩
      have ha3 := act_eq a3 27 hszn hdfn
      simp only [hu] at ha3 e0 e1 e2 e3 e6 e7 e8 e9 e10 e11 e12 e13 e25
      have ha' : a3 = ⟨#[uu 0, uu 1, uu 2, uu 3, uu 4, uu 5, uu 6, uu 7, uu 8, uu 9, uu 10, uu 11, uu 12, uu 13, uu 14, uu 15, uu 16, uu 17, uu 18, uu 19, uu 20, uu 21, uu 22, uu 23, uu 24, uu 25, uu 26], []⟩ := ha3
      rw [e0, e1, e2, e3, e6, e7, e8, e9, e10, e11, e12, e13, e25] at ha'
      clear ha3 hu e0 e1 e2 e3 e6 e7 e8 e9 e10 e11 e12 e13 e25 hfacts hout hszn hdfn hsz3 hdf3 hb3
      subst ha'
      go_wp2
      go_roundw
      case rel => exact ⟨q + 1, by omega, by go_num, HN.out⟩
      case measure => simp [intOf]; omega
    · obtain rfl : q = n := by omega
      have HF := Lib.hid hbel
      clear hbel hlt
      go_wp2
      go_ret
      exact ⟨rfl, HF.out⟩
end Go.Proofs.Ytdpiclmjdcjajaa

/-
  The walk of the law BinomialProducts. No conditions.
-/
namespace Go.Proofs.Ytdpiclmjdcjajaa
open Go.RowKit Num

theorem sz_prQ {a b i : Nat} (ha : a ≤ 16) (hb : b ≤ 16) (hi : i < a + b + 1) : Sz (prQ a b i) 5 := by
  have h := prow_small (a := a) (b := b) (k := a + b + 1) (j := i) ha hb (by omega)
  unfold prQ
  rw [quo_natc]
  exact sz_rat (Nat.lt_of_le_of_lt h (by decide)) (by decide) (by omega)
end Go.Proofs.Ytdpiclmjdcjajaa

/-
  The walk of combine on two lists of the same length. Condition: at most 40 numbers.
-/
namespace Go.Proofs.Ytdpiclmjdcjajaa
open Go.RowKit Num

/-- A list of numbers of at most k limbs, canonical or not. -/
def LstA (w : World) (v : Value) (n k : Nat) (f : Nat → Rat) : Prop :=
  ∃ a cap, v = .slice a n cap ∧ n ≤ cap ∧ cap ≤ 9223372036854775807 ∧ ∀ i, i < n → ∃ g o x y z, a = some ⟨g, o, none⟩ ∧ w.cell? ⟨g, o + i * 3, none⟩ = some x ∧ w.cell? ⟨g, o + (i * 3 + 1), none⟩ = some y ∧ w.cell? ⟨g, o + (i * 3 + 2), none⟩ = some z ∧ RatA w (.agg #[x, y, z]) k (f i)
theorem LstA.below {w w' : World} {v : Value} {n k : Nat} {f : Nat → Rat} (hb : Below w.heap.size w w') (h : LstA w v n k f) : LstA w' v n k f := by
  obtain ⟨a, cap, e, h1, h2, h3⟩ := h
  refine ⟨a, cap, e, h1, h2, fun i hi => ?_⟩
  obtain ⟨g, o, x, y, z, ea, c0, c1, c2, hr⟩ := h3 i hi
  exact ⟨g, o, x, y, z, ea, cell_below hb c0, cell_below hb c1, cell_below hb c2, hr.below hb⟩
theorem Lst.toA {w : World} {v : Value} {n k : Nat} {f : Nat → Rat} (h : Lst w v n f) (hs : ∀ i, i < n → Sz (f i) k) : LstA w v n k f := by
  obtain ⟨a, cap, e, h1, h2, h3⟩ := h
  refine ⟨a, cap, e, h1, h2, fun i hi => ?_⟩
  obtain ⟨g, o, x, y, z, ea, c0, c1, c2, hr⟩ := h3 i hi
  exact ⟨g, o, x, y, z, ea, c0, c1, c2, hr.a (hs i hi)⟩

theorem RatA.shape {w : World} {x y z : Value} {k : Nat} {q : Rat} (h : RatA w (.agg #[x, y, z]) k q) : ∃ s a n c a' n' c', x = .bool s ∧ y = .slice a n c ∧ z = .slice a' n' c' := by
  obtain ⟨s, an, cn, ad, cd, l1, l2, e, _⟩ := h
  obtain ⟨rfl, rfl, rfl⟩ : x = .bool s ∧ y = .slice an l1.length cn ∧ z = .slice ad l2.length cd := by simpa using e
  exact ⟨_, _, _, _, _, _, _, rfl, rfl, rfl⟩

theorem callFunc73 (x y : Value) (w : World) : Sem.run Try.prog (callFunc 73 #[x, y]) w = .ok (.enter 73 #[x, y]) w := by go_simp

set_option maxRecDepth 100000 in
set_option maxHeartbeats 4000000 in
theorem combine_same (F : FuncId) (op : Rat → Rat → Rat) (u v : Value) (n k1 k2 : Nat) (f g : Nat → Rat) (w : World) (hu : LstA w u n k1 f) (hv : LstA w v n k2 g) (hn : n ≤ 40)
    (hcall : ∀ x y w, Sem.run Try.prog (callFunc F #[x, y]) w = .ok (.enter F #[x, y]) w) (hc : ∀ w x y p q, RatA w x k1 p → RatA w y k2 q → Calls Try.prog F #[x, y] w (RatP (op p q) w)) :
    Calls Try.prog 69 #[u, v, .func (.func F) #[] #[]] w (ListP n (fun i => op (f i) (g i)) w) := by
  have hu' := hu
  have hv' := hv
  obtain ⟨a1, c1, rfl, h1, h1', _⟩ := hu
  obtain ⟨a2, c2, rfl, h2, h2', _⟩ := hv
  obtain ⟨H, hH⟩ : ∃ H, (fun i => op (f i) (g i)) = H := ⟨_, rfl⟩
  rw [hH]
  have hb0 := below_alloc1 w (.cells (madeCells #[.bool false, .slice none 0 0, .slice none 0 0] (n * 3)) 24)
  have hL0 := LstI.new w w.heap.size n H (Nat.le_refl _)
  have HA := Lib.hid (And.intro hu' (And.intro hv' (And.intro hc (And.intro hH (And.intro hb0 hL0)))))
  clear hu' hv' hc hH hb0 hL0
  go_enter Try.func69, Try.ntmps69
  go_wp2_with fail
  rw [run_make32 n w (by omega)]
  go_wp2_with fail
  go_loopw [19] (fun x wr => ∃ q : Nat, q ≤ n ∧ x = .int .i64 q ∧ LstI w.heap.size w.heap.size n H q wr ∧ Below w.heap.size w wr) (fun x _ => n - (intOf x).toNat)
  case atStart => exact ⟨0, Nat.zero_le _, rfl, HA.out.2.2.2.2.2, HA.out.2.2.2.2.1⟩
  case round =>
    obtain ⟨q, hq, rfl, hT, hbel⟩ := hrel
    by_cases hlt : q < n
    · have hqi : (q : Int) < (n : Int) := by omega
      obtain ⟨_, _, e1, _, _, r1⟩ := HA.out.1.below hbel
      obtain ⟨_, _, e2, _, _, r2⟩ := HA.out.2.1.below hbel
      obtain ⟨rfl, rfl⟩ : a1 = _ ∧ c1 = _ := by simpa using e1
      obtain ⟨rfl, rfl⟩ : a2 = _ ∧ c2 = _ := by simpa using e2
      obtain ⟨b1, o1, x1, y1, z1, rfl, i0, i1, i2, hr1⟩ := r1 q hlt
      obtain ⟨b2, o2, x2, y2, z2, rfl, j0, j1, j2, hr2⟩ := r2 q hlt
      obtain ⟨s1, a1, n1, d1, a1', n1', d1', rfl, rfl, rfl⟩ := hr1.shape
      obtain ⟨s2, a2, n2, d2, a2', n2', d2', rfl, rfl, rfl⟩ := hr2.shape
      have hb2 := fun cs ds : Array Value => (((Below.refl wr.heap.size wr).alloc (Nat.le_refl _) (.cells cs 24)).alloc (by simp) (.cells ds 24) : Below wr.heap.size wr ((wr.alloc (.cells cs 24)).alloc (.cells ds 24)))
      have i0' := cell_below (hb2 #[.bool false, .slice none 0 0, .slice none 0 0] #[.bool false, .slice none 0 0, .slice none 0 0]) i0
      have i1' : World.cell? _ ⟨b1, o1 + q * 3 + 1, none⟩ = some _ := cell_below (hb2 #[.bool false, .slice none 0 0, .slice none 0 0] #[.bool false, .slice none 0 0, .slice none 0 0]) i1
      have i2' : World.cell? _ ⟨b1, o1 + q * 3 + 2, none⟩ = some _ := cell_below (hb2 #[.bool false, .slice none 0 0, .slice none 0 0] #[.bool false, .slice none 0 0, .slice none 0 0]) i2
      have j0' := cell_below (hb2 #[.bool s1, .slice a1 n1 d1, .slice a1' n1' d1'] #[.bool false, .slice none 0 0, .slice none 0 0]) j0
      have j1' : World.cell? _ ⟨b2, o2 + q * 3 + 1, none⟩ = some _ := cell_below (hb2 #[.bool s1, .slice a1 n1 d1, .slice a1' n1' d1'] #[.bool false, .slice none 0 0, .slice none 0 0]) j1
      have j2' : World.cell? _ ⟨b2, o2 + q * 3 + 2, none⟩ = some _ := cell_below (hb2 #[.bool s1, .slice a1 n1 d1, .slice a1' n1' d1'] #[.bool false, .slice none 0 0, .slice none 0 0]) j2
      have hz : ∀ o, (wr.alloc o).heap.size = wr.heap.size + 1 := fun o => Array.size_push _
      have hB9 := fun x y z u v t => (BoxV.new wr w.heap.size 24 hbel.size [x, y, z]).below (below_alloc1 _ (.cells #[u, v, t] 24))
      have hB10 := fun o x y z => BoxV.new (wr.alloc o) w.heap.size 24 (by rw [hz]; exact Nat.le_succ_of_le hbel.size) [x, y, z]
      simp only [hz] at hB10
      obtain ⟨⟨p0, p1, p2⟩, p3, p4, p5⟩ := (hB9 (.bool false) (.slice none 0 0) (.slice none 0 0) (.bool false) (.slice none 0 0) (.slice none 0 0)).three
      obtain ⟨⟨q0, q1, q2⟩, q3, q4, q5⟩ := (hB10 (.cells #[.bool s1, .slice a1 n1 d1, .slice a1' n1' d1'] 24) (.bool false) (.slice none 0 0) (.slice none 0 0)).three
      have HR := Lib.hid (And.intro hT (And.intro hbel (And.intro hr1 (And.intro hr2 (hb2 #[.bool s1, .slice a1 n1 d1, .slice a1' n1' d1'] #[.bool s2, .slice a2 n2 d2, .slice a2' n2' d2'])))))
      clear hB9 hB10 hz hT hbel hr1 hr2 r1 r2 e1 e2 i0 i1 i2 j0 j1 j2 hb2
      go_wp2_with fail
      refine (HA.out.2.2.1 _ _ _ _ _ (HR.out.2.2.1.below HR.out.2.2.2.2) (HR.out.2.2.2.1.below HR.out.2.2.2.2)).mono ?_
      rintro e w5 ⟨v, rfl, hv, hb5⟩
      have hbb := below_next' HR.out.2.2.2.2 hb5
      have hT5 := HR.out.1.below hbb
      have hval : op (f q) (g q) = H q := by rw [← HA.out.2.2.2.1]
      rw [hval] at hv
      have hC := hv
      obtain ⟨m1, m2, m3, m4, m5, m6, rfl, _⟩ := hv
      have hT6 := hT5.store hlt hC
      obtain ⟨xs, l1, l2, l3, _⟩ := hT5
      have hxl : q * 3 + 2 < xs.length := by omega
      have t0 : w5.cell? ⟨w.heap.size, q * 3, none⟩ = some xs[q * 3] := by rw [l1.cell _ (by omega)]; exact List.getElem?_eq_getElem _
      have t1 : w5.cell? ⟨w.heap.size, q * 3 + 1, none⟩ = some xs[q * 3 + 1] := by rw [l1.cell _ (by omega)]; exact List.getElem?_eq_getElem _
      have t2 : w5.cell? ⟨w.heap.size, q * 3 + 2, none⟩ = some xs[q * 3 + 2] := by rw [l1.cell _ (by omega)]; exact List.getElem?_eq_getElem _
      have f0 := l1.frozen (q * 3)
      have f1 := l1.frozen (q * 3 + 1)
      have f2 := l1.frozen (q * 3 + 2)
      generalize xs[q * 3] = xa at t0
      generalize xs[q * 3 + 1] = xb at t1
      generalize xs[q * 3 + 2] = xc at t2
      obtain ⟨s, hs⟩ : ∃ s, decide ((H q).num < 0) = s := ⟨_, rfl⟩
      rw [hs] at hT6 ⊢
      have hbel6 := (((below_next' HR.out.2.1 hbb).setCell (p := ⟨w.heap.size, q * 3, none⟩) (Nat.le_refl _) (.bool s)).setCell (p := ⟨w.heap.size, q * 3 + 1, none⟩) (Nat.le_refl _) (.slice m1 m2 m3)).setCell (p := ⟨w.heap.size, q * 3 + 2, none⟩) (Nat.le_refl _) (.slice m4 m5 m6)
      have HN := Lib.hid (And.intro hT6 hbel6)
      clear hC hT6 l1 l2 l3 hxl hbel6 hs hbb hb5 hval i0' i1' i2' j0' j1' j2' p0 p1 p2 p3 p4 p5 q0 q1 q2 q3 q4 q5
      go_wp2
      go_roundw
      case rel => exact ⟨q + 1, by omega, by go_num, HN.out⟩
      case measure => simp [intOf]; omega
    · obtain rfl : q = n := by omega
      have HF := Lib.hid (And.intro hT hbel)
      clear hT hbel hlt
      go_wp2
      go_ret
      exact ⟨_, rfl, HF.out.1, HF.out.2⟩
end Go.Proofs.Ytdpiclmjdcjajaa

/-
  The walks of Sum on longer lists, of scalarProduct and of Eval. Conditions: at most 33 numbers of at most 500 limbs.
-/
namespace Go.Proofs.Ytdpiclmjdcjajaa
open Go.RowKit Num

theorem sz_sumK {f : Nat → Rat} {n K : Nat} (h : ∀ i, i < n → Sz (f i) K) : ∀ i, i ≤ n → Sz (sumN f i) ((K + 1) * i + 1)
  | 0, _ => show Sz 0 1 from sz_of_small (by decide) (by decide)
  | i + 1, hi => by
    have h1 := sz_add (sz_sumK h i (by omega)) (h i (by omega))
    rw [show (K + 1) * (i + 1) + 1 = (K + 1) * i + 1 + K + 1 by rw [Nat.mul_succ]; omega]
    exact h1

set_option maxHeartbeats 2000000 in
theorem sum_long (v : Value) (n K : Nat) (f : Nat → Rat) (w : World) (hn : n ≤ 33) (hK : K ≤ 500) (h : LstA w v n K f) (hs : ∀ i, i < n → Sz (f i) K) :
    Calls Try.prog 105 #[v] w (RatP (sumN f n) w) := by
  have hh := h
  obtain ⟨a, cap, rfl, _⟩ := h
  have hsum : ∀ i, i ≤ n → Sz (sumN f i) 17000 := fun i hi => sz_le (sz_sumK hs i hi) (by
    have := Nat.mul_le_mul (show K + 1 ≤ 501 by omega) (show i ≤ 33 by omega)
    omega)
  have hb0 := below_alloc1 w (.cells #[.bool false, .slice none 0 0, .slice none 0 0] 24)
  have hB := BoxV.new w w.heap.size 24 (Nat.le_refl _) [.bool false, .slice none 0 0, .slice none 0 0]
  have HA := Lib.hid (And.intro hh (And.intro hsum (And.intro hb0 hB)))
  clear hb0 hB hh hsum hs
  go_enter Try.func105, Try.ntmps105
  go_wp2_with fail
  refine (zero_any _).mono ?_
  rintro e w1 ⟨v, rfl, hv, hb1⟩
  have hB1 := HA.out.2.2.2.below hb1
  have hlt := hB1.block.2
  have H1 := Lib.hid (And.intro hv (And.intro hB1 (below_next' HA.out.2.2.1 hb1)))
  obtain ⟨z1, z2, z3, z4, z5, z6, rfl, _⟩ := hv
  clear hb1 hB1
  go_wp2
  have hb2 := below_alloc1 w1 (.cells #[.bool (decide ((0 : Rat).num < 0)), .slice z1 z2 z3, .slice z4 z5 z6] 24)
  have hB2 := BoxV.new w1 w.heap.size 24 (Nat.le_of_lt hlt) [.bool (decide ((0 : Rat).num < 0)), .slice z1 z2 z3, .slice z4 z5 z6]
  have HI := Lib.hid (show SumI w w1.heap.size (sumN f 0) _ from ⟨z1, z2, z3, z4, z5, z6, hB2, H1.out.1.below hb2, H1.out.2.1.below hb2, below_next' H1.out.2.2 hb2⟩)
  clear hb2 hB2
  go_loopw [9] (fun i wr => ∃ q : Nat, i = .int .i64 q ∧ q ≤ n ∧ SumI w w1.heap.size (sumN f q) wr) (fun i _ => n - (intOf i).toNat)
  case atStart => exact ⟨0, rfl, Nat.zero_le _, HI.out⟩
  case round =>
    obtain ⟨q, rfl, hq, an, ln, cn, ad, ld, cd, hBs, hC, hZ, hbel⟩ := hrel
    obtain ⟨⟨k0, k1, k2⟩, i0, i1, i2⟩ := hBs.three
    have t1 := hBs.block.2
    by_cases hlt2 : q < n
    · obtain ⟨_, _, e1, _, _, r1⟩ := HA.out.1.below hbel
      obtain ⟨rfl, rfl⟩ : a = _ ∧ cap = _ := by simpa using e1
      obtain ⟨b, o, x, y, z, rfl, c0, c1, c2, hr⟩ := r1 q hlt2
      have c1 : wr.cell? ⟨b, o + q * 3 + 1, none⟩ = some y := c1
      have c2 : wr.cell? ⟨b, o + q * 3 + 2, none⟩ = some z := c2
      obtain ⟨neg, ea, m, cn', ed, m2, cd', rfl, rfl, rfl⟩ := hr.shape
      have hb5 := fun W => below_alloc1 W (.cells #[.bool neg, .slice ea m cn', .slice ed m2 cd'] 24)
      have hadd := add_a (k := 17500) (((hC.a (HA.out.2.1 q hq)).le (by omega)).below (hb5 _)) ((hr.le (by omega)).below (hb5 _)) (by omega)
      have HR := Lib.hid (And.intro hadd (And.intro hBs (And.intro hZ (And.intro hbel (hb5 wr)))))
      clear hadd hBs hZ hbel hb5 hC hr r1 e1
      go_wp2_with fail
      refine HR.out.1.mono ?_
      rintro e w2 ⟨v, rfl, hv, hb6⟩
      have hb7 := below_next HR.out.2.2.2.2 hb6
      have hB2 := HR.out.2.1.below hb7
      have hZ2 := HR.out.2.2.1.below hb7
      have hbel2 := below_next' HR.out.2.2.2.1 hb7
      have HV := Lib.hid hv
      obtain ⟨y1, y2, y3, y4, y5, y6, rfl, _⟩ := hv
      clear k0 k1 k2 i0 i1 i2 c0 c1 c2 hb6 hb7 t1
      obtain ⟨⟨k0, k1, k2⟩, i0, i1, i2⟩ := hB2.three
      have HF := Lib.hid (And.intro hB2 (And.intro hZ2 hbel2))
      clear hB2 hZ2 hbel2
      go_wp2
      go_round
      case rel => exact ⟨q + 1, by go_num, by omega, SumI.next (s := sumN f q + f q) (by omega) HF.out.1 (noLimb_rat _ _ _ _ _ _ _) HF.out.2.1 HF.out.2.2 HV.out⟩
      case measure => simp [intOf]; omega
    · obtain ⟨⟨x0, x1, x2⟩, j0, j1, j2⟩ := hZ.three
      have HF := Lib.hid (And.intro hbel (And.intro hZ hC))
      have hqn : q = n := by omega
      subst hqn
      clear hbel hZ hC hBs hlt2
      go_wp2
      obtain ⟨e1, e2⟩ := ratC_end HF.out.1 HF.out.2.1 HF.out.2.2
      obtain ⟨⟨x0, x1, x2⟩, _⟩ := (HF.out.2.1.store3 (.bool (decide ((sumN f q).num < 0))) (.slice an ln cn) (.slice ad ld cd)).three
      exact bodyPost_ret (v := .agg #[.bool (decide ((sumN f q).num < 0)), .slice an ln cn, .slice ad ld cd]) (by simp [results, Try.results105, go_sem, x0, x1, x2]) rfl ⟨_, rfl, e1, e2⟩

set_option maxRecDepth 100000 in
set_option maxHeartbeats 4000000 in
theorem scalar_any (u v : Value) (n k1 k2 K : Nat) (f g : Nat → Rat) (w : World) (hu : LstA w u n k1 f) (hv : LstA w v n k2 g) (hn : n ≤ 33) (h1 : k1 + k2 ≤ 20000) (hK : K ≤ 500) (hs : ∀ i, i < n → Sz (f i * g i) K) :
    Calls Try.prog 61 #[u, v] w (RatP (sumN (fun i => f i * g i) n) w) := by
  have hb0 := below_alloc1 w (.cells #[.bool false, .slice none 0 0, .slice none 0 0] 24)
  have hB := BoxV.new w w.heap.size 24 (Nat.le_refl _) [.bool false, .slice none 0 0, .slice none 0 0]
  obtain ⟨H, hH⟩ : ∃ H, (fun i => f i * g i) = H := ⟨_, rfl⟩
  have hs' : ∀ i, i < n → Sz (H i) K := by rw [← hH]; exact hs
  rw [hH]
  obtain ⟨S, hS⟩ : ∃ S, sumN H n = S := ⟨_, rfl⟩
  rw [hS]
  have HA := Lib.hid (And.intro (hu.below hb0) (And.intro (hv.below hb0) (And.intro hs' (And.intro hb0 (And.intro hB (And.intro hH hS))))))
  clear hb0 hB hu hv hs hs' hH hS
  go_enter Try.func61, Try.ntmps61
  go_wp2_with fail
  refine (combine_same 73 (fun a b => a * b) _ _ n k1 k2 f g _ HA.out.1 HA.out.2.1 (by omega) callFunc73 (fun w x y p q hx hy => mul_a (k := k1 + k2) (hx.le (by omega)) (hy.le (by omega)) h1)).mono ?_
  rintro e w1 ⟨g1, rfl, hL, hb1⟩
  have hB1 := HA.out.2.2.2.2.1.below hb1
  rw [HA.out.2.2.2.2.2.1] at hL
  have hl := (hL.lst (cap := n) (Nat.le_refl _) (by omega)).toA HA.out.2.2.1
  have H1 := Lib.hid (And.intro hl (And.intro hB1 (below_next' HA.out.2.2.2.1 hb1)))
  clear hl hB1 hL hb1
  go_wp2_with fail
  refine (sum_long _ n K H _ hn hK H1.out.1 HA.out.2.2.1).mono ?_
  rintro e w2 ⟨v2, rfl, hv2, hb2⟩
  rw [HA.out.2.2.2.2.2.2] at hv2
  have hB2 := H1.out.2.1.below hb2
  have hbb := below_next' H1.out.2.2 hb2
  have HV := Lib.hid hv2
  obtain ⟨zn, zl, zc, en, el, ec, rfl, _⟩ := hv2
  obtain ⟨⟨x0, x1, x2⟩, j0, j1, j2⟩ := hB2.three
  have HF := Lib.hid (And.intro hbb hB2)
  clear hB2 hbb hb2
  go_wp2
  obtain ⟨e1, e2⟩ := ratC_end HF.out.1 HF.out.2 HV.out
  obtain ⟨⟨x0, x1, x2⟩, _⟩ := (HF.out.2.store3 (.bool (decide (S.num < 0))) (.slice zn zl zc) (.slice en el ec)).three
  exact bodyPost_ret (v := .agg #[.bool (decide (S.num < 0)), .slice zn zl zc, .slice en el ec]) (by simp [results, Try.results61, go_sem, x0, x1, x2]) rfl ⟨_, rfl, e1, e2⟩

/-- The value of a list at max(0, n). -/
def evQ (f : Nat → Rat) (len : Nat) (n : Int) : Rat := sumN (fun i => f i * chQ n i) len

set_option maxRecDepth 100000 in
set_option maxHeartbeats 4000000 in
theorem eval_in (u : Value) (len k1 K : Nat) (f : Nat → Rat) (n : Int) (w : World) (hu : LstA w u len k1 f) (h0 : 1 ≤ len) (hn : len ≤ 33) (hk1 : k1 ≤ 500) (hK : K ≤ 500) (hs : ∀ i, i < len → Sz (f i * chQ n i) K)
    (n1 : -9223372036854775808 ≤ n) (n2 : n ≤ 9223372036854775807) : Calls Try.prog 25 #[u, .int .i64 n] w (OkP (evQ f len n) true w) := by
  have hu' := hu
  obtain ⟨ua, uc, rfl, uc1, uc2, _⟩ := hu
  have hb0 := below_alloc1 w (.cells #[.bool false, .slice none 0 0, .slice none 0 0] 24)
  have hB := BoxV.new w w.heap.size 24 (Nat.le_refl _) [.bool false, .slice none 0 0, .slice none 0 0]
  obtain ⟨m, hm⟩ : ∃ m, (if n < 0 then 0 else n) = m := ⟨_, rfl⟩
  have hm0 : 0 ≤ m := by rw [← hm]; split <;> omega
  have hm1 : m ≤ 9223372036854775807 := by rw [← hm]; split <;> omega
  have hch : ∀ i, chQ n i = rz (quo m 1) i := fun i => by unfold chQ; rw [hm]
  have hc := fun w' => chooses_any m len w' h0 (by omega) hm0 hm1
  have hsz : ∀ i, i < len → Sz (rz (quo m 1) i) 513 := fun i hi => sz_le (sz_rz (sz_int (by omega) hm1) i (by omega)) (by omega)
  have hs' : ∀ i, i < len → Sz (f i * rz (quo m 1) i) K := fun i hi => by rw [← hch]; exact hs i hi
  obtain ⟨S, hS⟩ : ∃ S, evQ f len n = S := ⟨_, rfl⟩
  have hS' : sumN (fun i => f i * rz (quo m 1) i) len = S := by rw [← hS]; unfold evQ; simp only [hch]
  rw [hS]
  have HA := Lib.hid (And.intro (hu'.below hb0) (And.intro hc (And.intro hsz (And.intro hs' (And.intro hS' (And.intro hb0 hB))))))
  clear hb0 hB hu' hc hsz hs hs' hS hS' hch
  go_enter Try.func25, Try.ntmps25
  have hmm : (n ≤ 0 ∧ 0 = m) ∨ (0 < n ∧ n = m) := by rw [← hm]; split <;> omega
  clear hm
  rcases hmm with ⟨hneg, rfl⟩ | ⟨hneg, rfl⟩
  all_goals
    go_wp2_with fail
    refine (HA.out.2.1 _).mono ?_
    rintro e w1 ⟨g1, rfl, hL, hb1⟩
    have hl := (hL.lst (cap := len) (Nat.le_refl _) (by omega)).toA HA.out.2.2.1
    have H1 := Lib.hid (And.intro hl (And.intro (HA.out.1.below hb1) (And.intro (HA.out.2.2.2.2.2.2.below hb1) (below_next' HA.out.2.2.2.2.2.1 hb1))))
    clear hl hL hb1
    go_wp2_with fail
    refine (scalar_any _ _ len k1 513 K _ _ _ H1.out.2.1 H1.out.1 hn (by omega) hK HA.out.2.2.2.1).mono ?_
    rintro e w2 ⟨v2, rfl, hv2, hb2⟩
    rw [HA.out.2.2.2.2.1] at hv2
    have hB2 := H1.out.2.2.1.below hb2
    have hbb := below_next' H1.out.2.2.2 hb2
    have HV := Lib.hid hv2
    obtain ⟨zn, zl, zc, en, el, ec, rfl, _⟩ := hv2
    obtain ⟨⟨x0, x1, x2⟩, j0, j1, j2⟩ := hB2.three
    have HF := Lib.hid (And.intro hbb hB2)
    clear hB2 hbb hb2
    go_wp2
    obtain ⟨e1, e2⟩ := ratC_end HF.out.1 HF.out.2 HV.out
    obtain ⟨⟨x0, x1, x2⟩, _⟩ := (HF.out.2.store3 (.bool (decide (S.num < 0))) (.slice zn zl zc) (.slice en el ec)).three
    exact bodyPost_ret (v := .tuple #[.agg #[.bool (decide (S.num < 0)), .slice zn zl zc, .slice en el ec], .bool true]) (by simp [results, Try.results25, go_sem, x0, x1, x2]) rfl ⟨_, rfl, e1, e2⟩
end Go.Proofs.Ytdpiclmjdcjajaa

/-
  The product of two binomial coefficients as a sum. Condition: both lower numbers are at most 8.
-/
namespace Go.Proofs.Ytdpiclmjdcjajaa
open Go.RowKit Num

/-- The coefficient of C(n, j) in C(n, a) C(n, b). -/
def pc (a b j : Nat) : Nat := if a ≤ j ∧ b ≤ j ∧ j < a + b + 1 then pas j a * pas a (j - b) else 0
theorem pc_none {a b j : Nat} (h : ¬ (a ≤ j ∧ b ≤ j ∧ j < a + b + 1)) : pc a b j = 0 := if_neg h
theorem sumN_congr {f g : Nat → Rat} : ∀ m, (∀ i, i < m → f i = g i) → sumN f m = sumN g m
  | 0, _ => rfl
  | m + 1, h => by
    show sumN f m + f m = sumN g m + g m
    rw [sumN_congr m fun i hi => h i (by omega), h m (by omega)]
theorem sumN_add (f g : Nat → Rat) : ∀ m, sumN (fun i => f i + g i) m = sumN f m + sumN g m
  | 0 => by show (0 : Rat) = 0 + 0; grind
  | m + 1 => by
    show sumN (fun i => f i + g i) m + (f m + g m) = sumN f m + f m + (sumN g m + g m)
    rw [sumN_add f g m]
    grind
theorem sumN_zero {f : Nat → Rat} : ∀ m, (∀ i, i < m → f i = 0) → sumN f m = 0
  | 0, _ => rfl
  | m + 1, h => by
    show sumN f m + f m = 0
    rw [sumN_zero m fun i hi => h i (by omega), h m (by omega)]
    grind
theorem sumN_one (C : Nat → Rat) (b : Nat) : ∀ m, sumN (fun i => ((if i = b then 1 else 0 : Nat) : Rat) * C i) m = if b < m then C b else 0
  | 0 => rfl
  | m + 1 => by
    show sumN (fun i => ((if i = b then 1 else 0 : Nat) : Rat) * C i) m + ((if m = b then 1 else 0 : Nat) : Rat) * C m = _
    rw [sumN_one C b m]
    by_cases h : m = b
    · subst h
      rw [if_neg (by omega), if_pos rfl, if_pos (by omega)]
      show (0 : Rat) + ((1 : Nat) : Rat) * C m = C m
      grind
    · rw [if_neg h]
      by_cases h2 : b < m
      · rw [if_pos h2, if_pos (by omega)]
        show C b + ((0 : Nat) : Rat) * C m = C b
        grind
      · rw [if_neg h2, if_neg (by omega)]
        show (0 : Rat) + ((0 : Nat) : Rat) * C m = 0
        grind
/-- Pascal's rule within a sum. -/
theorem sumN_shift {C D : Nat → Rat} (h0 : D 0 = C 0) (hs : ∀ k, D (k + 1) = C k + C (k + 1)) (p : Nat → Rat) : ∀ m, sumN (fun i => p i * D i) (m + 1) = sumN (fun i => p i * C i) (m + 1) + sumN (fun i => p (i + 1) * C i) m
  | 0 => by
    show (0 : Rat) + p 0 * D 0 = 0 + p 0 * C 0 + 0
    rw [h0]
    grind
  | m + 1 => by
    show sumN (fun i => p i * D i) (m + 1) + p (m + 1) * D (m + 1) = sumN (fun i => p i * C i) (m + 1) + p (m + 1) * C (m + 1) + (sumN (fun i => p (i + 1) * C i) m + p (m + 1) * C m)
    rw [sumN_shift h0 hs p m, hs]
    grind

theorem ch_zero (n : Int) : chQ n 0 = 1 := rfl
theorem ch_none : ∀ k, chQ 0 (k + 1) = 0
  | 0 => by
    unfold chQ
    rw [if_neg (by omega), rz_succ, quo_zero]
    show (1 : Rat) * (0 - ((0 : Nat) : Rat)) / (((0 : Nat) : Rat) + 1) = 0
    grind
  | k + 1 => by
    have h := ch_none k
    unfold chQ at *
    rw [if_neg (by omega)] at *
    rw [rz_succ, h]
    grind

theorem prQ_pc (a b i : Nat) : prQ a b i = ((pc a b i : Nat) : Rat) := by
  unfold prQ
  rw [quo_castN]
  rfl
end Go.Proofs.Ytdpiclmjdcjajaa

/-
  The walk of the law BinomialIdentity. No conditions.
-/
namespace Go.Proofs.Ytdpiclmjdcjajaa
open Go.RowKit Num

def identL (A B V : Rat) : Tmp → Kd := fun t => ([.any, .any, .any, .any, .any, .any, .val (.bool true), .any, .val (.bool true), .boxC 513 A, .val (.bool true), .boxC 513 B, .val (.bool true), .boxC 1027 V, .val (.bool true), .any, .any, .any, .any, .any, .any, .any, .any, .any, .any, .any, .any, .any, .any, .any, .any, .any, .any, .any, .any, .any, .any, .any, .any, .any, .any, .any, .any, .any, .any, .any, .any, .any, .any, .any, .any, .any, .any, .any, .any, .any, .any, .any, .any, .any, .any, .val (.bool true), .val (.bool true), .val (.bool true), .val (.bool true), .val (.bool true), .val (.bool true), .val (.bool true), .val (.bool true), .val (.bool true), .val (.bool true), .val (.bool true), .ratC 1027 V, .ratC 513 A, .ratC 513 B, .ratC 1027 (A * B), .val (.bool true), .val (.bool true), .val (.bool true), .val (.bool true), .val (.bool true)] : List Kd).getD t .any

end Go.Proofs.Ytdpiclmjdcjajaa

/-
  The walks of trim and Canonical. Conditions: at most 40 numbers of at most 500 limbs.
-/
namespace Go.Proofs.Ytdpiclmjdcjajaa
open Go.RowKit Num

/-- The length without the zeros at the end. -/
def trimN (f : Nat → Rat) : Nat → Nat
  | 0 => 0
  | n + 1 => if f n = 0 then trimN f n else n + 1
theorem trimN_le (f : Nat → Rat) : ∀ n, trimN f n ≤ n
  | 0 => Nat.le_refl _
  | n + 1 => by
    unfold trimN
    split
    · exact Nat.le_succ_of_le (trimN_le f n)
    · exact Nat.le_refl _
theorem trimN_zero {f : Nat → Rat} {n : Nat} (h : f n = 0) : trimN f (n + 1) = trimN f n := by
  show (if f n = 0 then trimN f n else n + 1) = _
  rw [if_pos h]
theorem trimN_stay {f : Nat → Rat} {n : Nat} (h : f n ≠ 0) : trimN f (n + 1) = n + 1 := by
  show (if f n = 0 then trimN f n else n + 1) = _
  rw [if_neg h]

/-- The element of a list. -/
theorem LstA.elem {w : World} {a : Option Addr} {n cap k : Nat} {f : Nat → Rat} (h : LstA w (.slice a n cap) n k f) {i : Nat} (hi : i < n) :
    ∃ g o x y z, a = some ⟨g, o, none⟩ ∧ w.cell? ⟨g, o + i * 3, none⟩ = some x ∧ w.cell? ⟨g, o + i * 3 + 1, none⟩ = some y ∧ w.cell? ⟨g, o + i * 3 + 2, none⟩ = some z ∧ RatA w (.agg #[x, y, z]) k (f i) := by
  obtain ⟨a', cap', e, _, _, h3⟩ := h
  obtain ⟨rfl, rfl⟩ : a = a' ∧ cap = cap' := by simpa using e
  exact h3 i hi
theorem LstA.cut {w : World} {a : Option Addr} {n cap k m : Nat} {f : Nat → Rat} (h : LstA w (.slice a n cap) n k f) (hm : m ≤ n) : LstA w (.slice a m cap) m k f := by
  obtain ⟨a', cap', e, h1, h2, h3⟩ := h
  obtain ⟨rfl, rfl⟩ : a = a' ∧ cap = cap' := by simpa using e
  exact ⟨_, _, rfl, by omega, h2, fun i hi => h3 i (by omega)⟩

set_option maxRecDepth 100000 in
set_option maxHeartbeats 4000000 in
theorem trimL_any (a : Option Addr) (n cap k : Nat) (f : Nat → Rat) (w : World) (h : LstA w (.slice a n cap) n k f) :
    Calls Try.prog 63 #[.slice a n cap] w (fun e w' => e = .returned (.slice a (trimN f n) cap) ∧ Below w.heap.size w w') := by
  have hnc : n ≤ cap := by obtain ⟨_, _, e, h1, _⟩ := h; simp at e; omega
  have hcm : cap ≤ 9223372036854775807 := by obtain ⟨_, _, e, _, h2, _⟩ := h; simp at e; omega
  obtain ⟨T, hT⟩ : ∃ T, trimN f n = T := ⟨_, rfl⟩
  rw [hT]
  have HA := Lib.hid (And.intro h hT)
  clear h hT
  go_enter Try.func63, Try.ntmps63
  go_wp2_with fail
  go_loopw [0] (fun x wr => ∃ q : Nat, q ≤ n ∧ x = .slice a q cap ∧ Hid (trimN f q = T) ∧ Below w.heap.size w wr) (fun x _ => match x with | .slice _ q _ => q | _ => 0)
  case atStart => exact ⟨n, Nat.le_refl _, rfl, Lib.hid HA.out.2, Below.refl _ _⟩
  case round =>
    obtain ⟨q, hq, rfl, hqT, hbel⟩ := hrel
    match q, hq, hqT with
    | 0, hq, hqT =>
      have h0 : (0 : Nat) = T := hqT.out
      subst h0
      have HF := Lib.hid hbel
      clear hbel
      go_wp2
      go_ret
      exact ⟨rfl, HF.out⟩
    | r + 1, hq, hqT =>
      obtain ⟨g, o, x, y, z, rfl, c0, c1, c2, hr⟩ := (HA.out.1.below hbel).elem (i := r) (by omega)
      have HR := Lib.hid (And.intro hbel hr)
      clear hbel hr
      go_wp2_with fail
      refine (sign_any _ k (f r) _ HR.out.2).mono ?_
      rintro e w2 ⟨rfl, hb2⟩
      have HB := Lib.hid (below_next' HR.out.1 hb2)
      clear hb2 c0 c1 c2
      by_cases hz : f r = 0
      · have hs : sgn (f r) = 0 := (sgn_zero _).2 hz
        have hq2 : Hid (trimN f r = T) := Lib.hid ((trimN_zero hz).symm.trans hqT.out)
        clear hz hqT
        go_wp2
        go_roundw
        case rel => exact ⟨r, by omega, rfl, hq2, HB.out⟩
        case measure => simp
      · have hs : ¬ sgn (f r) = 0 := fun e => hz ((sgn_zero _).1 e)
        have h0 : r + 1 = T := (trimN_stay hz).symm.trans hqT.out
        subst h0
        clear hz hqT
        go_wp2
        go_ret
        exact ⟨rfl, HB.out⟩

set_option maxRecDepth 100000 in
set_option maxHeartbeats 4000000 in
theorem canonical_list (a : Option Addr) (n cap k : Nat) (f : Nat → Rat) (w : World) (h : LstA w (.slice a n cap) n k f) (hn : n ≤ 40) (hk : k ≤ 50000) :
    Calls Try.prog 28 #[.slice a n cap] w (fun e w' => ∃ v, e = .returned v ∧ Lst w' v (trimN f n) f ∧ Below w.heap.size w w') := by
  have hT := trimN_le f n
  have hcut := h.cut hT
  have htr := trimL_any a n cap k f w h
  obtain ⟨T, hTT⟩ : ∃ T, trimN f n = T := ⟨_, rfl⟩
  rw [hTT] at hT hcut htr ⊢
  have HA := Lib.hid (And.intro hcut htr)
  clear h hcut htr hTT
  go_enter Try.func28, Try.ntmps28
  go_wp2_with fail
  refine HA.out.2.mono ?_
  rintro e w1 ⟨rfl, hb1⟩
  have H1 := Lib.hid hb1
  clear hb1
  go_wp2_with fail
  go_loopw [3, 9] (fun v x wr => ∃ q : Nat, q ≤ T ∧ x = .int .i64 q ∧ OutR w.heap.size q f v wr ∧ Below w.heap.size w wr) (fun _ x _ => T - (intOf x).toNat)
  case atStart => exact ⟨0, Nat.zero_le _, rfl, OutR.nil _ _ _, H1.out⟩
  case round =>
    obtain ⟨q, hq, rfl, hO, hbel⟩ := hrel
    by_cases hlt : q < T
    · have hqi : (q : Int) < (T : Int) := by omega
      obtain ⟨g, o, x, y, z, rfl, c0, c1, c2, hr⟩ := (HA.out.1.below hbel).elem hlt
      obtain ⟨s1, a1, n1, d1, a1', n1', d1', rfl, rfl, rfl⟩ := hr.shape
      have hb5 := below_alloc1 wr (.cells #[.bool s1, .slice a1 n1 d1, .slice a1' n1' d1'] 24)
      have HR := Lib.hid (And.intro (hO.below hb5) (And.intro (below_next' hbel hb5) (hr.below hb5)))
      clear hO hbel hr hb5
      go_wp2_with fail
      refine (Canonical_any _ k (f q) _ HR.out.2.2 hk).mono ?_
      rintro e w3 ⟨v3, rfl, hv3, hb3⟩
      have hc3 := hv3
      obtain ⟨b1, b2, b3, b4, b5, b6, rfl, _⟩ := hv3
      obtain ⟨s, hs⟩ : ∃ s, decide ((f q).num < 0) = s := ⟨_, rfl⟩
      rw [hs] at hc3 ⊢
      have hb6 := below_alloc1 w3 (.cells #[.bool s, .slice b1 b2 b3, .slice b4 b5 b6] 24)
      have hbb := below_next' hb3 hb6
      have H3 := Lib.hid (And.intro (HR.out.1.below hbb) (And.intro (hc3.below hb6) (below_next' HR.out.2.1 hbb)))
      clear hc3 hb3 hb6 hbb hs c0 c1 c2
      go_wp2_with (at_builtin; refine wpList_append_rat rfl _ _ rfl w.heap.size q f _ rfl H3.out.1 ⟨w3.heap.size, 0, none⟩ 1 _ _ _ rfl (three_new _ _ _ _ _ _ rfl) H3.out.2.1 (by omega) H3.out.2.2.size ?_; intro v' w13 hO3 hgr3)
      go_roundw
      case rel => exact ⟨q + 1, by omega, by go_num, hO3, H3.out.2.2.grown hgr3 H3.out.2.2.size (fun k hk => (H3.out.1.own k hk).1)⟩
      case measure => simp [intOf]; omega
    · obtain rfl : q = T := by omega
      have HF := Lib.hid (And.intro hO.lst hbel)
      clear hO hbel hlt
      go_wp2
      go_ret
      exact ⟨_, rfl, HF.out.1, HF.out.2⟩
end Go.Proofs.Ytdpiclmjdcjajaa

/-
  The walk of the reference's Canonical. Conditions: at most 40 numbers of at most 500 limbs.
-/
namespace Go.Proofs.Ytdpiclmjdcjajaa
open Go.RowKit Num

set_option maxRecDepth 100000 in
set_option maxHeartbeats 4000000 in
theorem refCanonical_list (a : Option Addr) (n cap k : Nat) (f : Nat → Rat) (w : World) (h : LstA w (.slice a n cap) n k f) (hn : n ≤ 40) (hk : k ≤ 50000) :
    Calls Try.prog 29 #[.slice a n cap] w (fun e w' => ∃ v, e = .returned v ∧ Lst w' v (trimN f n) f ∧ Below w.heap.size w w') := by
  obtain ⟨T, hT⟩ : ∃ T, trimN f n = T := ⟨_, rfl⟩
  have hTn : T ≤ n := by rw [← hT]; exact trimN_le f n
  rw [hT]
  have HA := Lib.hid (And.intro h hT)
  clear h hT
  go_enter Try.func29, Try.ntmps29
  go_wp2_with fail
  go_loopw [3] (fun x wr => ∃ q : Nat, q ≤ n ∧ x = .int .i64 q ∧ Hid (trimN f q = T) ∧ Below w.heap.size w wr) (fun x _ => (intOf x).toNat)
  case atStart => exact ⟨n, Nat.le_refl _, rfl, Lib.hid HA.out.2, Below.refl _ _⟩
  case round =>
    obtain ⟨q, hq, rfl, hqT, hbel⟩ := hrel
    have after : ∀ (wr : World), True := fun _ => trivial
    match q, hq, hqT with
    | 0, hq, hqT =>
      have h0 : (0 : Nat) = T := hqT.out
      subst h0
      have HF := Lib.hid hbel
      clear hbel
      go_wp2_with fail
      go_loopw [4, 5] (fun v x wr => x = .int .i64 ((0 : Nat) : Int) ∧ OutR w.heap.size 0 f v wr ∧ Below w.heap.size w wr) (fun _ x _ => 0)
      case atStart => exact ⟨rfl, OutR.nil _ _ _, HF.out⟩
      case round =>
        obtain ⟨rfl, hO, hbel⟩ := hrel
        have HE := Lib.hid (And.intro hO.lst hbel)
        clear hO hbel
        go_wp2
        go_ret
        exact ⟨_, rfl, HE.out.1, HE.out.2⟩
    | r + 1, hq, hqT =>
      obtain ⟨g, o, x, y, z, rfl, c0, c1, c2, hr⟩ := (HA.out.1.below hbel).elem (i := r) (by omega)
      have HR := Lib.hid (And.intro hbel hr)
      clear hbel hr
      go_wp2_with fail
      refine (refSign_a (k := k) HR.out.2 (by omega)).mono ?_
      rintro e w2 ⟨rfl, hb2⟩
      have HB := Lib.hid (below_next' HR.out.1 hb2)
      clear hb2 c0 c1 c2
      by_cases hz : f r = 0
      · have hs : sgn (f r) = 0 := (sgn_zero _).2 hz
        have hq2 : Hid (trimN f r = T) := Lib.hid ((trimN_zero hz).symm.trans hqT.out)
        clear hz hqT
        go_wp2
        go_roundw
        case rel => exact ⟨r, by omega, by go_num, hq2, HB.out⟩
        case measure => simp [intOf]
      · have hs : (sgn (f r) == 0) = false := by simpa using fun e => hz ((sgn_zero _).1 e)
        have h0 : r + 1 = T := (trimN_stay hz).symm.trans hqT.out
        subst h0
        clear hz hqT
        go_wp2_with fail
        go_loopw [4, 5] (fun v x wr => ∃ q : Nat, q ≤ r + 1 ∧ x = .int .i64 q ∧ OutR w.heap.size q f v wr ∧ Below w.heap.size w wr) (fun _ x _ => r + 1 - (intOf x).toNat)
        case atStart => exact ⟨0, Nat.zero_le _, rfl, OutR.nil _ _ _, HB.out⟩
        case round =>
          obtain ⟨q, hq, rfl, hO, hbel⟩ := hrel
          by_cases hlt : q < r + 1
          · have hqi : (q : Int) < ((r + 1 : Nat) : Int) := by omega
            obtain ⟨g, o, x, y, z, hga, c0, c1, c2, hr⟩ := (HA.out.1.below hbel).elem (i := q) (by omega)
            obtain ⟨rfl, rfl⟩ : _ = g ∧ _ = o := by simpa using hga
            have HR := Lib.hid (And.intro hO (And.intro hbel hr))
            clear hO hbel hr
            go_wp2_with fail
            refine (refCanonical_a (k := k) HR.out.2.2 (by omega)).mono ?_
            rintro e w3 ⟨v3, rfl, hv3, hb3⟩
            have hc3 := hv3
            obtain ⟨b1, b2, b3, b4, b5, b6, rfl, _⟩ := hv3
            obtain ⟨s, hs⟩ : ∃ s, decide ((f q).num < 0) = s := ⟨_, rfl⟩
            rw [hs] at hc3 ⊢
            have hb6 := below_alloc1 w3 (.cells #[.bool s, .slice b1 b2 b3, .slice b4 b5 b6] 24)
            have hbb := below_next' hb3 hb6
            have H3 := Lib.hid (And.intro (HR.out.1.below hbb) (And.intro (hc3.below hb6) (below_next' HR.out.2.1 hbb)))
            clear hc3 hb3 hb6 hbb hs c0 c1 c2
            go_wp2_with (at_builtin; refine wpList_append_rat rfl _ _ rfl w.heap.size q f _ rfl H3.out.1 ⟨w3.heap.size, 0, none⟩ 1 _ _ _ rfl (three_new _ _ _ _ _ _ rfl) H3.out.2.1 (by omega) H3.out.2.2.size ?_; intro v' w13 hO3 hgr3)
            go_roundw
            case rel => exact ⟨q + 1, by omega, by go_num, hO3, H3.out.2.2.grown hgr3 H3.out.2.2.size (fun k hk => (H3.out.1.own k hk).1)⟩
            case measure => simp [intOf]; omega
          · obtain rfl : q = r + 1 := by omega
            have HF := Lib.hid (And.intro hO.lst hbel)
            clear hO hbel hlt
            go_wp2
            go_ret
            exact ⟨_, rfl, HF.out.1, HF.out.2⟩
end Go.Proofs.Ytdpiclmjdcjajaa

/-
  The walks of the reference's at and Eval. Conditions: at most 33 numbers of at most 8 limbs.
-/
namespace Go.Proofs.Ytdpiclmjdcjajaa
open Go.RowKit Num

section
variable {κ : Tmp → Ke} {G : Nat → Option Tmp} {d s t u c : Tmp} {ty : TypeId} {pos : String} {es : Array Edge} {k k' : Nat} {p q : Rat}
set_option maxRecDepth 100000 in
theorem e_loadR (ht : κ t = .box k q) (hd : κ d = .rc k q) : FlowStep Try.prog (Fe κ) G ⟨some d, .load 24 (.tmp t), ty, pos, es, none⟩ := by
  refine e_step rfl fun a w Q hf => ?_
  have h := hf t (by simp [Op.operands])
  rw [ht] at h
  obtain ⟨b, x0, x1, x2, e, c0, c1, c2, hr, hs⟩ := (show (Kd.boxC k q).holds w _ from h)
  unfold Oper.wp
  rw [run_load24' _ _ _ _ _ _ _ b 0 x0 x1 x2 e c0 c1 c2, Oper.upon_value]
  exact ⟨_, rfl, Below.refl _ _, fun d' hd' => by cases hd'; rw [hd]; exact ⟨hr, hs⟩⟩
theorem c2_104 (a : Act) (d : Option Tmp) (ty : TypeId) (pos : String) (es : Array Edge) (t u : Tmp) (w : World) :
    Sem.run Try.prog (execOp a.eval ⟨d, .call ⟨.value (.func 104), #[.tmp t, .tmp u], #[24, 3]⟩, ty, pos, es, none⟩) w = .ok (.enter 104 #[a.tmps.getD t undef, a.tmps.getD u undef]) w := by go_simp
theorem c2_44 (a : Act) (d : Option Tmp) (ty : TypeId) (pos : String) (es : Array Edge) (t u : Tmp) (w : World) :
    Sem.run Try.prog (execOp a.eval ⟨d, .call ⟨.value (.func 44), #[.tmp t, .tmp u], #[24, 24]⟩, ty, pos, es, none⟩) w = .ok (.enter 44 #[a.tmps.getD t undef, a.tmps.getD u undef]) w := by go_simp
set_option maxRecDepth 100000 in
theorem e_ratio {i : Nat} (ht : κ t = .rc 3 p) (hu : κ u = .con (.int .i64 i)) (hd : κ d = .rc 513 (rz p i)) (hi : i ≤ 64) :
    FlowStep Try.prog (Fe κ) G ⟨some d, .call ⟨.value (.func 104), #[.tmp t, .tmp u], #[24, 3]⟩, ty, pos, es, none⟩ := by
  refine e_step rfl fun a w Q hf => ?_
  have h := hf t (by simp [Op.operands, Call.operands])
  have h' := hf u (by simp [Op.operands, Call.operands])
  rw [ht] at h
  rw [hu] at h'
  obtain ⟨h1, h2⟩ := (show RatC w _ p ∧ Sz p 3 from h)
  have h' : a.tmps.getD u undef = .int .i64 i := h'
  unfold Oper.wp
  rw [c2_104, h', Oper.upon_enter]
  refine (ratio_any p i _ w hi h1 h2).mono ?_
  rintro e w' ⟨v, rfl, hv, hb⟩
  exact ⟨v, rfl, hb, fun d' hd' => by cases hd'; rw [hd]; exact ⟨hv, sz_le (sz_rz h2 i hi) (by omega)⟩⟩
theorem e_mul4 {m : Nat} (ht : κ t = .ra k p) (hu : κ u = .rc k' q) (hd : κ d = .rc m (p * q)) (hs : Sz (p * q) m) (hk : k + k' ≤ 20000) :
    FlowStep Try.prog (Fe κ) G ⟨some d, .call ⟨.value (.func 45), #[.tmp t, .tmp u], #[24, 24]⟩, ty, pos, es, none⟩ :=
  e_c2 (fun a w => c2_45 _ _ _ _ _ _ _ _) fun w x y hx hy => by
    rw [ht] at hx
    rw [hu] at hy
    have hx : RatA w x k p := hx
    obtain ⟨hy1, hy2⟩ := (show RatC w y q ∧ Sz q k' from hy)
    refine (refMul_a (k := k + k') (hx.le (by omega)) ((hy1.a hy2).le (by omega)) hk).mono ?_
    rintro e w' ⟨v, rfl, hv, hb⟩
    exact ⟨v, rfl, by rw [hd]; exact ⟨hv, hs⟩, hb⟩
theorem e_add4 (ht : κ t = .ra k p) (hu : κ u = .rc k' q) (hd : κ d = .ratC (p + q)) (hk : k + k' ≤ 15000) :
    FlowStep Try.prog (Fe κ) G ⟨some d, .call ⟨.value (.func 44), #[.tmp t, .tmp u], #[24, 24]⟩, ty, pos, es, none⟩ :=
  e_c2 (fun a w => c2_44 _ _ _ _ _ _ _ _) fun w x y hx hy => by
    rw [ht] at hx
    rw [hu] at hy
    have hx : RatA w x k p := hx
    obtain ⟨hy1, hy2⟩ := (show RatC w y q ∧ Sz q k' from hy)
    refine (refAdd_a (k := k + k') (hx.le (by omega)) ((hy1.a hy2).le (by omega)) hk).mono ?_
    rintro e w' ⟨v, rfl, hv, hb⟩
    exact ⟨v, rfl, by rw [hd]; exact hv, hb⟩
end

def atA (a : Option Addr) (n cap i : Nat) (m s p : Rat) : Tmp → Ke := fun t => ([.sl a n cap i p, .any, .any, .box 3 m, .any, .box 9000 s, .con (.int .i64 i), .any, .any, .any, .any, .any, .any, .any, .ra 9000 s, .sl a n cap i p, .con (.int .i64 i), .el p, .ra 8 p, .rc 3 m, .con (.int .i64 i), .rc 513 (rz m i), .rc 267 (p * rz m i), .ratC (s + p * rz m i), .any] : List Ke).getD t .any

theorem LstA.elemV {w : World} {a : Option Addr} {n cap : Nat} {f : Nat → Rat} (h : LstA w (.slice a n cap) n 8 f) {i : Nat} (hi : i < n) : ElemV w a i (f i) := by
  obtain ⟨g, o, x, y, z, ea, c0, c1, c2, hr⟩ := h.elem hi
  exact ⟨g, o, x, y, z, ea, c0, c1, c2, hr⟩

set_option maxRecDepth 100000 in
set_option maxHeartbeats 8000000 in
theorem at_any (a : Option Addr) (n cap : Nat) (f : Nat → Rat) (m : Rat) (v0 : Value) (w : World) (hn : n ≤ 33) (hl : LstA w (.slice a n cap) n 8 f) (hf : ∀ i, i < n → Sz (f i) 9) (h0 : RatC w v0 m) (hs : Sz m 3) :
    Calls Try.prog 62 #[.slice a n cap, v0] w (RatP (sumN (fun i => f i * rz m i) n) w) := by
  obtain ⟨S, hS⟩ : ∃ S, (fun k => sumN (fun i => f i * rz m i) k) = S := ⟨_, rfl⟩
  have hp : ∀ i, i < n → Sz (f i * rz m i) 267 := fun i hi => sz_mul (a := 9) (b := 257) (hf i hi) (sz_le (sz_rz hs i (by omega)) (by omega))
  have hsum : ∀ i, i ≤ n → Sz (S i) 9000 := fun i hi => by
    rw [← hS]
    exact sz_le (sz_sumK hp i hi) (by omega)
  have hS0 : S 0 = 0 := by rw [← hS]; rfl
  have hSs : ∀ i, S i + f i * rz m i = S (i + 1) := fun i => by rw [← hS]; rfl
  rw [show sumN (fun i => f i * rz m i) n = S n by rw [← hS]]
  obtain ⟨z1, z2, z3, z4, z5, z6, rfl, _⟩ := id h0
  have hz : ∀ o, (w.alloc o).heap.size = w.heap.size + 1 := fun o => Array.size_push _
  have hb0 := below_alloc1 w (.cells #[.bool (decide (m.num < 0)), .slice z1 z2 z3, .slice z4 z5 z6] 24)
  have hBn := BoxV.new w w.heap.size 24 (Nat.le_refl _) [.bool (decide (m.num < 0)), .slice z1 z2 z3, .slice z4 z5 z6]
  have hb1 := below_alloc1 (w.alloc (.cells #[.bool (decide (m.num < 0)), .slice z1 z2 z3, .slice z4 z5 z6] 24)) (.cells #[.bool false, .slice none 0 0, .slice none 0 0] 24)
  have hBz := BoxV.new (w.alloc (.cells #[.bool (decide (m.num < 0)), .slice z1 z2 z3, .slice z4 z5 z6] 24)) w.heap.size 24 (by rw [hz]; exact Nat.le_succ _) [.bool false, .slice none 0 0, .slice none 0 0]
  rw [show (w.alloc (.cells #[.bool (decide (m.num < 0)), .slice z1 z2 z3, .slice z4 z5 z6] 24)).heap.size = w.heap.size + 1 from hz _] at hBz
  have HA := Lib.hid (show RtB w m _ _ _ _ from ⟨hBn.below hb1, (h0.below hb0).below hb1, hBz, below_next' hb0 hb1⟩)
  have HS := Lib.hid (And.intro hs (And.intro hsum (And.intro hl (And.intro hSs (And.intro hS0 hp)))))
  clear hb0 hBn hb1 hBz h0 hs hz hsum hl hSs hS hS0 hp hf
  go_enter Try.func62, Try.ntmps62
  go_wp2_with fail
  refine (refFromInt_any 0 _ (by omega) (by omega)).mono ?_
  rintro e w1 ⟨v, rfl, hv, hb1⟩
  rw [quo_zero] at hv
  have H1 := Lib.hid (And.intro (HA.out.below hb1) hv)
  have hlt := H1.out.1.bz.block.2
  obtain ⟨y1, y2, y3, y4, y5, y6, rfl, _⟩ := hv
  clear hb1
  go_wp2
  have hb2 := below_alloc1 w1 (.cells #[.bool (decide ((0 : Rat).num < 0)), .slice y1 y2 y3, .slice y4 y5 y6] 24)
  have hB2 := BoxV.new w1 w.heap.size 24 (by omega) [.bool (decide ((0 : Rat).num < 0)), .slice y1 y2 y3, .slice y4 y5 y6]
  have HI := Lib.hid (And.intro (H1.out.1.below hb2) (show RtO w w1.heap.size (S 0) _ by rw [HS.out.2.2.2.2.1]; exact ⟨y1, y2, y3, y4, y5, y6, hB2, H1.out.2.below hb2⟩))
  clear hb2 hB2
  go_loopw [6] (fun i wr => ∃ q : Nat, i = .int .i64 q ∧ q ≤ n ∧ RtB w m (.bool (decide (m.num < 0))) (.slice z1 z2 z3) (.slice z4 z5 z6) wr ∧ RtO w w1.heap.size (S q) wr) (fun i _ => n - (intOf i).toNat)
  case atStart => exact ⟨0, rfl, Nat.zero_le _, HI.out⟩
  case round =>
    obtain ⟨q, rfl, hq, hT, an, ln, cn, ad, ld, cd, hBs, hC⟩ := hrel
    by_cases hlt2 : q < n
    · have HL := Lib.hid hlt2
      have hbx := boxC_of hBs hC (HS.out.2.1 q (by omega))
      have hbn := boxC_of hT.bn hT.cn HS.out.1
      have hel := (HS.out.2.2.1.below hT.bel).elemV hlt2
      have hel' := hel
      obtain ⟨b, o, _, _, _, rfl, _⟩ := hel
      have HR := Lib.hid (And.intro hbn (And.intro hbx (And.intro hBs (And.intro hT hel'))))
      clear hbx hbn hBs hT hC hel'
      go_wp2_with fail
      refine region_flow_tail (Fe (atA (some ⟨b, o, none⟩) n cap q m (S q) (f q))) (by rfl) (Fe.mono _) 25 10 [] (by rfl) (by kernel_rfl) (by kernel_rfl) (by kernel_rfl) (by kernel_rfl) (fun t ht => by cases ht) [0, 3, 5, 6] (by kernel_rfl) ?g0 (Fe.draw _) ?gs ?gf
      case g0 =>
        intro t ht
        simp only [List.mem_cons, List.not_mem_nil, or_false] at ht
        rcases ht with rfl | rfl | rfl | rfl
        · exact ⟨rfl, HR.out.2.2.2.2⟩
        · exact HR.out.1
        · exact HR.out.2.1
        · rfl
      case gs =>
        exact ⟨flowN_of (e_loadC rfl rfl) (by decide), flowN_of (e_move rfl) (by decide), flowN_of (e_move rfl) (by decide), flowN_of (e_index rfl rfl rfl hlt2) (by decide), flowN_of (e_loadE rfl rfl) (by decide), flowN_of (e_loadR rfl rfl) (by decide), flowN_of (e_move rfl) (by decide), flowN_of (e_ratio rfl rfl rfl (by omega)) (by decide), flowN_of (e_mul4 rfl rfl rfl (HS.out.2.2.2.2.2 q hlt2) (by omega)) (by decide), flowN_of (e_add4 rfl rfl rfl (by omega)) (by decide), trivial⟩
      intro a3 w3 hb3 hsz3 hdf3 hfacts hout _
      have f23 : RatC w3 (a3.tmps.getD 23 undef) (S q + f q * rz m q) := hfacts 9 23 (by decide) rfl
      rw [HS.out.2.2.2.1] at f23
      have e0 : a3.tmps.getD 0 undef = .slice (some ⟨b, o, none⟩) n cap := hout 0 (free_of (by kernel_rfl))
      have e1 : a3.tmps.getD 1 undef = .agg #[.bool (decide (m.num < 0)), .slice z1 z2 z3, .slice z4 z5 z6] := hout 1 (free_of (by kernel_rfl))
      have e2 : a3.tmps.getD 2 undef = undef := hout 2 (free_of (by kernel_rfl))
      have e3 : a3.tmps.getD 3 undef = .pointer (some ⟨w.heap.size, 0, none⟩) := hout 3 (free_of (by kernel_rfl))
      have e4 : a3.tmps.getD 4 undef = .pointer (some ⟨w.heap.size + 1, 0, none⟩) := hout 4 (free_of (by kernel_rfl))
      have e5 : a3.tmps.getD 5 undef = .pointer (some ⟨w1.heap.size, 0, none⟩) := hout 5 (free_of (by kernel_rfl))
      have e6 : a3.tmps.getD 6 undef = .int .i64 q := hout 6 (free_of (by kernel_rfl))
      have e7 : a3.tmps.getD 7 undef = .agg #[.bool (decide ((0 : Rat).num < 0)), .slice y1 y2 y3, .slice y4 y5 y6] := hout 7 (free_of (by kernel_rfl))
      have e24 : a3.tmps.getD 24 undef = undef := hout 24 (free_of (by kernel_rfl))
      have hszn : a3.tmps.size = 25 := hsz3
      have hdfn : a3.defers = [] := hdf3
      have hB3 := HR.out.2.2.1.below hb3
      change runFrom _ _ _ 1 10 a3 w3
      simp only [runFrom]
      refine e_store (t := 5) (u := 23) rfl e5 hB3 f23 fun an' ln' cn' ad' ld' cd' hR => ?_
      have HN := Lib.hid (And.intro ((HR.out.2.2.2.1.below hb3).set (v0 := .bool (decide ((S (q + 1)).num < 0))) (v1 := .slice an' ln' cn') (v2 := .slice ad' ld' cd') hB3 (noLimb_rat _ _ _ _ _ _ _) hlt) (RtO.next hB3 (noLimb_rat _ _ _ _ _ _ _) hR))
      generalize (((w3.setCell ⟨w1.heap.size, 0, none⟩ (.bool (decide ((S (q + 1)).num < 0)))).setCell ⟨w1.heap.size, 1, none⟩ (.slice an' ln' cn')).setCell ⟨w1.heap.size, 2, none⟩ (.slice ad' ld' cd')) = w4 at HN ⊢
      obtain ⟨uu, hu⟩ : ∃ u : Nat → Value, ∀ t, a3.tmps.getD t undef = u t := ⟨_, fun _ => rfl⟩
      have ha := act_eq a3 25 hszn hdfn
      simp only [hu] at ha e0 e1 e2 e3 e4 e5 e6 e7 e24
      have ha' : a3 = ⟨#[uu 0, uu 1, uu 2, uu 3, uu 4, uu 5, uu 6, uu 7, uu 8, uu 9, uu 10, uu 11, uu 12, uu 13, uu 14, uu 15, uu 16, uu 17, uu 18, uu 19, uu 20, uu 21, uu 22, uu 23, uu 24], []⟩ := ha
      rw [e0, e1, e2, e3, e4, e5, e6, e7, e24] at ha'
      clear ha hu e0 e1 e2 e3 e4 e5 e6 e7 e24 hfacts hout hszn hdfn hsz3 hdf3 f23 hB3 hR hb3
      subst ha'
      go_wp2
      go_roundw
      case rel => exact ⟨q + 1, by go_num, by have := HL.out; omega, HN.out⟩
      case measure => have := HL.out; simp [intOf]; omega
    · obtain ⟨⟨k0, k1, k2⟩, i0, i1, i2⟩ := hBs.three
      obtain ⟨⟨x0, x1, x2⟩, j0, j1, j2⟩ := hT.bz.three
      have HF := Lib.hid (And.intro hT hC)
      have hqn : q = n := by omega
      subst hqn
      clear hT hC hBs hlt2
      go_wp2
      obtain ⟨⟨x0, x1, x2⟩, _⟩ := (HF.out.1.bz.store3 (.bool (decide ((S q).num < 0))) (.slice an ln cn) (.slice ad ld cd)).three
      exact bodyPost_ret (v := .agg #[.bool (decide ((S q).num < 0)), .slice an ln cn, .slice ad ld cd]) (by simp [results, Try.results62, go_sem, x0, x1, x2]) rfl ⟨_, rfl, HF.out.2.other HF.out.1.bz noLimb_nil3 (grown_set3 _ _ _ _ _), below_set3 HF.out.1.bel HF.out.1.bz.block.1 _ _ _⟩
end Go.Proofs.Ytdpiclmjdcjajaa

/-
  The walks of Eval for every length, of the reference's Eval and of keep.Rats with the limit 40. Condition: numbers of at most 8 limbs.
-/
namespace Go.Proofs.Ytdpiclmjdcjajaa
open Go.RowKit Num

set_option maxRecDepth 100000 in
set_option maxHeartbeats 8000000 in
theorem chooses_all (n : Int) (k : Nat) (w : World) (hk : k ≤ 65) (hn0 : 0 ≤ n) (hn1 : n ≤ 9223372036854775807) :
    Calls Try.prog 58 #[.int .i64 n, .int .i64 k] w (ListP k (rz (quo n 1)) w) := by
  have hb0 := below_alloc1 w (.cells (madeCells #[.bool false, .slice none 0 0, .slice none 0 0] (k * 3)) 24)
  have hL0 := LstI.new w w.heap.size k (rz (quo n 1)) (Nat.le_refl _)
  have hz : ∀ o, (w.alloc o).heap.size = w.heap.size + 1 := fun o => Array.size_push _
  have hsn : Sz (quo n 1) 3 := sz_int (by omega) hn1
  have hs : ∀ i, i ≤ 65 → Sz (rz (quo n 1) i) 521 := fun i hi => by
    by_cases h : i ≤ 64
    · exact sz_le (sz_rz hsn i h) (by omega)
    · obtain rfl : i = 65 := by omega
      have h1 := sz_rz hsn 64 (by omega)
      have h2 := sz_sub hsn (sz_nat (n := 64) (by omega))
      exact sz_le (sz_div (sz_mul h1 h2) (sz_nat (n := 65) (by omega))) (by omega)
  have hq5 : ∀ i : Nat, i < 65 → Sz (quo (n - i) ((i : Int) + 1)) 7 := fun i hi => by
    rw [← quo_div, ← quo_sub]
    refine sz_le (sz_div (sz_sub hsn (sz_nat (n := i) (by omega))) (sz_nat (n := i + 1) (by omega))) (by decide)
  have HA := Lib.hid (And.intro hb0 (And.intro hL0 (And.intro hs hq5)))
  have HZ := Lib.hid hz
  clear hb0 hL0 hs hq5 hz hsn
  go_enter Try.func58, Try.ntmps58
  go_wp2_with fail
  rw [run_make32 k w hk]
  go_wp2_with fail
  refine (fromInt_any 1 _ (by omega) (by omega)).mono ?_
  rintro e w1 ⟨v, rfl, hv, hb1⟩
  rw [quo_one] at hv
  have hlt : w.heap.size < w1.heap.size := by have := hb1.size; rw [HZ.out] at this; omega
  have H1 := Lib.hid (And.intro (HA.out.2.1.below hb1) (And.intro hv (below_next' HA.out.1 hb1)))
  obtain ⟨y1, y2, y3, y4, y5, y6, rfl, _⟩ := hv
  clear hb1
  go_wp2
  have hb2 := below_alloc1 w1 (.cells #[.bool (decide ((1 : Rat).num < 0)), .slice y1 y2 y3, .slice y4 y5 y6] 24)
  have hB2 := BoxV.new w1 w.heap.size 24 (by omega) [.bool (decide ((1 : Rat).num < 0)), .slice y1 y2 y3, .slice y4 y5 y6]
  have HI := Lib.hid (And.intro (H1.out.1.below hb2) (And.intro (below_next' H1.out.2.2 hb2) (show RtO w w1.heap.size (rz (quo n 1) 0) _ from ⟨y1, y2, y3, y4, y5, y6, hB2, H1.out.2.1.below hb2⟩)))
  clear hb2 hB2
  go_loopw [12] (fun i wr => ∃ q : Nat, i = .int .i64 q ∧ q ≤ k ∧ LstI w.heap.size w.heap.size k (rz (quo n 1)) q wr ∧ Below w.heap.size w wr ∧ RtO w w1.heap.size (rz (quo n 1) q) wr) (fun i _ => k - (intOf i).toNat)
  case atStart => exact ⟨0, rfl, Nat.zero_le _, HI.out⟩
  case round =>
    obtain ⟨q, rfl, hq, hT, hbel, an, ln, cn, ad, ld, cd, hBs, hC⟩ := hrel
    by_cases hlt2 : q < k
    · have HL := Lib.hid hlt2
      have hT' := hT
      obtain ⟨xs, l1, l2, l3, _⟩ := hT
      have hxl : q * 3 + 2 < xs.length := by omega
      have c0 : wr.cell? ⟨w.heap.size, q * 3, none⟩ = some xs[q * 3] := by rw [l1.cell _ (by omega)]; exact List.getElem?_eq_getElem _
      have c1 : wr.cell? ⟨w.heap.size, q * 3 + 1, none⟩ = some xs[q * 3 + 1] := by rw [l1.cell _ (by omega)]; exact List.getElem?_eq_getElem _
      have c2 : wr.cell? ⟨w.heap.size, q * 3 + 2, none⟩ = some xs[q * 3 + 2] := by rw [l1.cell _ (by omega)]; exact List.getElem?_eq_getElem _
      have f0 := l1.frozen (q * 3)
      have f1 := l1.frozen (q * 3 + 1)
      have f2 := l1.frozen (q * 3 + 2)
      generalize xs[q * 3] = xa at c0
      generalize xs[q * 3 + 1] = xb at c1
      generalize xs[q * 3 + 2] = xc at c2
      have hgr : wr.grownBy (((wr.setCell ⟨w.heap.size, q * 3, none⟩ (.bool (decide ((rz (quo n 1) q).num < 0)))).setCell ⟨w.heap.size, q * 3 + 1, none⟩ (.slice an ln cn)).setCell ⟨w.heap.size, q * 3 + 2, none⟩ (.slice ad ld cd)) (some w.heap.size) :=
        grown_setCell (grown_setCell (grown_setCell (World.grownBy.refl _ _) _) _) _
      have hT2 := hT'.store hlt2 hC
      have hC2 := hC.other l1 l3 hgr
      have hB2 := hBs.kept hgr (by simp; omega)
      have hbel2 := ((hbel.setCell (p := ⟨w.heap.size, q * 3, none⟩) (Nat.le_refl _) (.bool (decide ((rz (quo n 1) q).num < 0)))).setCell (p := ⟨w.heap.size, q * 3 + 1, none⟩) (Nat.le_refl _) (.slice an ln cn)).setCell (p := ⟨w.heap.size, q * 3 + 2, none⟩) (Nat.le_refl _) (.slice ad ld cd)
      have hbx := boxC_of hB2 hC2 (HA.out.2.2.1 q (by omega))
      obtain ⟨⟨k0, k1, k2⟩, i0, i1, i2⟩ := hBs.three
      have HR := Lib.hid (And.intro hbx (And.intro hB2 (And.intro hT2 hbel2)))
      clear hT' l1 l2 l3 hxl hgr hT2 hC2 hB2 hbel2 hbx hBs hbel hC
      go_wp2_with fail
      refine region_flow_tail (Fe (chA n (rz (quo n 1) q) q)) (by rfl) (Fe.mono _) 29 8 [] (by rfl) (by kernel_rfl) (by kernel_rfl) (by kernel_rfl) (by kernel_rfl) (fun t ht => by cases ht) [0, 6, 7] (by kernel_rfl) ?g0 (Fe.draw _) ?gs ?gf
      case g0 =>
        intro t ht
        simp only [List.mem_cons, List.not_mem_nil, or_false] at ht
        rcases ht with rfl | rfl | rfl
        · rfl
        · exact HR.out.1
        · rfl
      case gs =>
        exact ⟨flowN_of (e_loadC rfl rfl) (by decide), flowN_of (e_move rfl) (by decide), flowN_of (e_move rfl) (by decide), flowN_of (e_isub rfl rfl rfl (by omega) (by omega)) (by decide), flowN_of (e_move rfl) (by decide), flowN_of (e_iadd1 rfl rfl (by omega) (by omega)) (by decide), flowN_of (e_small rfl rfl rfl (by omega) (by omega) (by omega) (by omega) (HA.out.2.2.2 q (by omega))) (by decide), flowN_of (e_mul73 rfl rfl rfl (by omega)) (by decide), trivial⟩
      intro a3 w3 hb3 hsz3 hdf3 hfacts hout _
      have f26 : RatC w3 (a3.tmps.getD 26 undef) (rz (quo n 1) q * quo (n - q) ((q : Int) + 1)) := hfacts 7 26 (by decide) rfl
      rw [rz_next] at f26
      have e0 : a3.tmps.getD 0 undef = .int .i64 n := hout 0 (free_of (by kernel_rfl))
      have e1 : a3.tmps.getD 1 undef = .int .i64 k := hout 1 (free_of (by kernel_rfl))
      have e2 : a3.tmps.getD 2 undef = undef := hout 2 (free_of (by kernel_rfl))
      have e3 : a3.tmps.getD 3 undef = undef := hout 3 (free_of (by kernel_rfl))
      have e4 : a3.tmps.getD 4 undef = .slice none 0 0 := hout 4 (free_of (by kernel_rfl))
      have e5 : a3.tmps.getD 5 undef = .slice (some ⟨w.heap.size, 0, none⟩) k k := hout 5 (free_of (by kernel_rfl))
      have e6 : a3.tmps.getD 6 undef = .pointer (some ⟨w1.heap.size, 0, none⟩) := hout 6 (free_of (by kernel_rfl))
      have e7 : a3.tmps.getD 7 undef = .int .i64 q := hout 7 (free_of (by kernel_rfl))
      have e8 : a3.tmps.getD 8 undef = .int .i64 k := hout 8 (free_of (by kernel_rfl))
      have e9 : a3.tmps.getD 9 undef = .slice (some ⟨w.heap.size, 0, none⟩) k k := hout 9 (free_of (by kernel_rfl))
      have e10 : a3.tmps.getD 10 undef = .agg #[.bool false, .slice y1 y2 y3, .slice y4 y5 y6] := hout 10 (free_of (by kernel_rfl))
      have e11 : a3.tmps.getD 11 undef = .int .i64 k := hout 11 (free_of (by kernel_rfl))
      have e12 : a3.tmps.getD 12 undef = .int .i64 q := hout 12 (free_of (by kernel_rfl))
      have e28 : a3.tmps.getD 28 undef = undef := hout 28 (free_of (by kernel_rfl))
      have hszn : a3.tmps.size = 29 := hsz3
      have hdfn : a3.defers = [] := hdf3
      have hB3 := HR.out.2.1.below hb3
      change runFrom _ _ _ 1 8 a3 w3
      simp only [runFrom]
      refine e_store (t := 6) (u := 26) rfl e6 hB3 f26 fun an' ln' cn' ad' ld' cd' hR => ?_
      have HN := Lib.hid (And.intro ((HR.out.2.2.1.below hb3).other (v0 := .bool (decide ((rz (quo n 1) (q + 1)).num < 0))) (v1 := .slice an' ln' cn') (v2 := .slice ad' ld' cd') hB3 (noLimb_rat _ _ _ _ _ _ _) (by omega)) (And.intro (below_set3 (below_next' HR.out.2.2.2 hb3) hB3.block.1 (.bool (decide ((rz (quo n 1) (q + 1)).num < 0))) (.slice an' ln' cn') (.slice ad' ld' cd')) (RtO.next hB3 (noLimb_rat _ _ _ _ _ _ _) hR)))
      generalize (((w3.setCell ⟨w1.heap.size, 0, none⟩ (.bool (decide ((rz (quo n 1) (q + 1)).num < 0)))).setCell ⟨w1.heap.size, 1, none⟩ (.slice an' ln' cn')).setCell ⟨w1.heap.size, 2, none⟩ (.slice ad' ld' cd')) = w4 at HN ⊢
      obtain ⟨uu, hu⟩ : ∃ u : Nat → Value, ∀ t, a3.tmps.getD t undef = u t := ⟨_, fun _ => rfl⟩
      have ha := act_eq a3 29 hszn hdfn
      simp only [hu] at ha e0 e1 e2 e3 e4 e5 e6 e7 e8 e9 e10 e11 e12 e28
      have ha' : a3 = ⟨#[uu 0, uu 1, uu 2, uu 3, uu 4, uu 5, uu 6, uu 7, uu 8, uu 9, uu 10, uu 11, uu 12, uu 13, uu 14, uu 15, uu 16, uu 17, uu 18, uu 19, uu 20, uu 21, uu 22, uu 23, uu 24, uu 25, uu 26, uu 27, uu 28], []⟩ := ha
      rw [e0, e1, e2, e3, e4, e5, e6, e7, e8, e9, e10, e11, e12, e28] at ha'
      clear ha hu e0 e1 e2 e3 e4 e5 e6 e7 e8 e9 e10 e11 e12 e28 hfacts hout hszn hdfn hsz3 hdf3 f26 hB3 hR hb3 k0 k1 k2 i0 i1 i2 c0 c1 c2 f0 f1 f2
      subst ha'
      go_wp2
      go_round
      case rel => exact ⟨q + 1, by go_num, by have := HL.out; omega, HN.out⟩
      case measure => have := HL.out; simp [intOf]; omega
    · have hqn : q = k := by omega
      subst hqn
      have HF := Lib.hid (And.intro hT hbel)
      clear hT hbel hBs hC hlt2
      go_wp2
      exact bodyPost_ret (v := .slice (some ⟨w.heap.size, 0, none⟩) q q) (by simp [results, Try.results58, go_sem]) rfl ⟨_, rfl, HF.out.1, HF.out.2⟩

set_option maxRecDepth 100000 in
set_option maxHeartbeats 4000000 in
theorem eval_all (u : Value) (len k1 K : Nat) (f : Nat → Rat) (n : Int) (w : World) (hu : LstA w u len k1 f) (hn : len ≤ 33) (hk1 : k1 ≤ 500) (hK : K ≤ 500) (hs : ∀ i, i < len → Sz (f i * chQ n i) K)
    (n1 : -9223372036854775808 ≤ n) (n2 : n ≤ 9223372036854775807) : Calls Try.prog 25 #[u, .int .i64 n] w (OkP (evQ f len n) true w) := by
  have hu' := hu
  obtain ⟨ua, uc, rfl, uc1, uc2, _⟩ := hu
  have hb0 := below_alloc1 w (.cells #[.bool false, .slice none 0 0, .slice none 0 0] 24)
  have hB := BoxV.new w w.heap.size 24 (Nat.le_refl _) [.bool false, .slice none 0 0, .slice none 0 0]
  obtain ⟨m, hm⟩ : ∃ m, (if n < 0 then 0 else n) = m := ⟨_, rfl⟩
  have hm0 : 0 ≤ m := by rw [← hm]; split <;> omega
  have hm1 : m ≤ 9223372036854775807 := by rw [← hm]; split <;> omega
  have hch : ∀ i, chQ n i = rz (quo m 1) i := fun i => by unfold chQ; rw [hm]
  have hc := fun w' => chooses_all m len w' (by omega) hm0 hm1
  have hsz : ∀ i, i < len → Sz (rz (quo m 1) i) 513 := fun i hi => sz_le (sz_rz (sz_int (by omega) hm1) i (by omega)) (by omega)
  have hs' : ∀ i, i < len → Sz (f i * rz (quo m 1) i) K := fun i hi => by rw [← hch]; exact hs i hi
  obtain ⟨S, hS⟩ : ∃ S, evQ f len n = S := ⟨_, rfl⟩
  have hS' : sumN (fun i => f i * rz (quo m 1) i) len = S := by rw [← hS]; unfold evQ; simp only [hch]
  rw [hS]
  have HA := Lib.hid (And.intro (hu'.below hb0) (And.intro hc (And.intro hsz (And.intro hs' (And.intro hS' (And.intro hb0 hB))))))
  clear hb0 hB hu' hc hsz hs hs' hS hS' hch
  go_enter Try.func25, Try.ntmps25
  have hmm : (n ≤ 0 ∧ 0 = m) ∨ (0 < n ∧ n = m) := by rw [← hm]; split <;> omega
  clear hm
  rcases hmm with ⟨hneg, rfl⟩ | ⟨hneg, rfl⟩
  all_goals
    go_wp2_with fail
    refine (HA.out.2.1 _).mono ?_
    rintro e w1 ⟨g1, rfl, hL, hb1⟩
    have hl := (hL.lst (cap := len) (Nat.le_refl _) (by omega)).toA HA.out.2.2.1
    have H1 := Lib.hid (And.intro hl (And.intro (HA.out.1.below hb1) (And.intro (HA.out.2.2.2.2.2.2.below hb1) (below_next' HA.out.2.2.2.2.2.1 hb1))))
    clear hl hL hb1
    go_wp2_with fail
    refine (scalar_any _ _ len k1 513 K _ _ _ H1.out.2.1 H1.out.1 hn (by omega) hK HA.out.2.2.2.1).mono ?_
    rintro e w2 ⟨v2, rfl, hv2, hb2⟩
    rw [HA.out.2.2.2.2.1] at hv2
    have hB2 := H1.out.2.2.1.below hb2
    have hbb := below_next' H1.out.2.2.2 hb2
    have HV := Lib.hid hv2
    obtain ⟨zn, zl, zc, en, el, ec, rfl, _⟩ := hv2
    obtain ⟨⟨x0, x1, x2⟩, j0, j1, j2⟩ := hB2.three
    have HF := Lib.hid (And.intro hbb hB2)
    clear hB2 hbb hb2
    go_wp2
    obtain ⟨e1, e2⟩ := ratC_end HF.out.1 HF.out.2 HV.out
    obtain ⟨⟨x0, x1, x2⟩, _⟩ := (HF.out.2.store3 (.bool (decide (S.num < 0))) (.slice zn zl zc) (.slice en el ec)).three
    exact bodyPost_ret (v := .tuple #[.agg #[.bool (decide (S.num < 0)), .slice zn zl zc, .slice en el ec], .bool true]) (by simp [results, Try.results25, go_sem, x0, x1, x2]) rfl ⟨_, rfl, e1, e2⟩

set_option maxRecDepth 100000 in
theorem eval_out (a : Option Addr) (len cap : Nat) (n : Int) (w : World) (hn : 33 < len) (hl : len ≤ 9223372036854775807) : Calls Try.prog 25 #[.slice a len cap, .int .i64 n] w (OkP 0 false w) := by
  have hb0 := below_alloc1 w (.cells #[.bool false, .slice none 0 0, .slice none 0 0] 24)
  have hB := BoxV.new w w.heap.size 24 (Nat.le_refl _) [.bool false, .slice none 0 0, .slice none 0 0]
  obtain ⟨r, hr⟩ : ∃ r, (0 : Rat) = r := ⟨_, rfl⟩
  rw [hr]
  have HA := Lib.hid (And.intro hb0 (And.intro hB hr))
  clear hb0 hB hr
  go_enter Try.func25, Try.ntmps25
  go_wp2_with fail
  refine (fromInt_any 0 _ (by omega) (by omega)).mono ?_
  rintro e w2 ⟨v, rfl, hv, hb2⟩
  rw [quo_zero, HA.out.2.2] at hv
  have hB2 := HA.out.2.1.below hb2
  have hbb := below_next' HA.out.1 hb2
  have HV := Lib.hid hv
  obtain ⟨zn, zl, zc, en, el, ec, rfl, _⟩ := hv
  obtain ⟨⟨x0, x1, x2⟩, j0, j1, j2⟩ := hB2.three
  have HF := Lib.hid (And.intro hbb hB2)
  clear hB2 hbb hb2
  go_wp2
  obtain ⟨e1, e2⟩ := ratC_end HF.out.1 HF.out.2 HV.out
  obtain ⟨⟨x0, x1, x2⟩, _⟩ := (HF.out.2.store3 (.bool (decide (r.num < 0))) (.slice zn zl zc) (.slice en el ec)).three
  exact bodyPost_ret (v := .tuple #[.agg #[.bool (decide (r.num < 0)), .slice zn zl zc, .slice en el ec], .bool false]) (by simp [results, Try.results25, go_sem, x0, x1, x2]) rfl ⟨_, rfl, e1, e2⟩

set_option maxRecDepth 100000 in
theorem refEval_out (a : Option Addr) (len cap : Nat) (n : Int) (w : World) (hn : 33 < len) (hl : len ≤ 9223372036854775807) : Calls Try.prog 26 #[.slice a len cap, .int .i64 n] w (OkP 0 false w) := by
  have hb0 := below_alloc1 w (.cells #[.bool false, .slice none 0 0, .slice none 0 0] 24)
  have hB := BoxV.new w w.heap.size 24 (Nat.le_refl _) [.bool false, .slice none 0 0, .slice none 0 0]
  obtain ⟨r, hr⟩ : ∃ r, (0 : Rat) = r := ⟨_, rfl⟩
  rw [hr]
  have HA := Lib.hid (And.intro hb0 (And.intro hB hr))
  clear hb0 hB hr
  go_enter Try.func26, Try.ntmps26
  go_wp2_with fail
  refine (refFromInt_any 0 _ (by omega) (by omega)).mono ?_
  rintro e w2 ⟨v, rfl, hv, hb2⟩
  rw [quo_zero, HA.out.2.2] at hv
  have hB2 := HA.out.2.1.below hb2
  have hbb := below_next' HA.out.1 hb2
  have HV := Lib.hid hv
  obtain ⟨zn, zl, zc, en, el, ec, rfl, _⟩ := hv
  obtain ⟨⟨x0, x1, x2⟩, j0, j1, j2⟩ := hB2.three
  have HF := Lib.hid (And.intro hbb hB2)
  clear hB2 hbb hb2
  go_wp2
  obtain ⟨e1, e2⟩ := ratC_end HF.out.1 HF.out.2 HV.out
  obtain ⟨⟨x0, x1, x2⟩, _⟩ := (HF.out.2.store3 (.bool (decide (r.num < 0))) (.slice zn zl zc) (.slice en el ec)).three
  exact bodyPost_ret (v := .tuple #[.agg #[.bool (decide (r.num < 0)), .slice zn zl zc, .slice en el ec], .bool false]) (by simp [results, Try.results26, go_sem, x0, x1, x2]) rfl ⟨_, rfl, e1, e2⟩

set_option maxRecDepth 100000 in
set_option maxHeartbeats 4000000 in
theorem refEval_all (a : Option Addr) (len cap : Nat) (f : Nat → Rat) (n : Int) (w : World) (hu : LstA w (.slice a len cap) len 8 f) (hn : len ≤ 33) (hf : ∀ i, i < len → Sz (f i) 9)
    (n1 : -9223372036854775808 ≤ n) (n2 : n ≤ 9223372036854775807) : Calls Try.prog 26 #[.slice a len cap, .int .i64 n] w (OkP (evQ f len n) true w) := by
  have hb0 := below_alloc1 w (.cells #[.bool false, .slice none 0 0, .slice none 0 0] 24)
  have hB := BoxV.new w w.heap.size 24 (Nat.le_refl _) [.bool false, .slice none 0 0, .slice none 0 0]
  obtain ⟨m, hm⟩ : ∃ m, (if n < 0 then 0 else n) = m := ⟨_, rfl⟩
  have hm0 : 0 ≤ m := by rw [← hm]; split <;> omega
  have hm1 : m ≤ 9223372036854775807 := by rw [← hm]; split <;> omega
  have hch : ∀ i, chQ n i = rz (quo m 1) i := fun i => by unfold chQ; rw [hm]
  obtain ⟨S, hS⟩ : ∃ S, evQ f len n = S := ⟨_, rfl⟩
  have hS' : sumN (fun i => f i * rz (quo m 1) i) len = S := by rw [← hS]; unfold evQ; simp only [hch]
  rw [hS]
  have hat := fun w v (h : LstA w (.slice a len cap) len 8 f) (h0 : RatC w v (quo m 1)) => at_any a len cap f (quo m 1) v w hn h hf h0 (sz_int (by omega) hm1)
  rw [hS'] at hat
  have HA := Lib.hid (And.intro (hu.below hb0) (And.intro hat (And.intro hb0 hB)))
  clear hb0 hB hat hS hS' hch hf hu
  go_enter Try.func26, Try.ntmps26
  have hmm : (n ≤ 0 ∧ 0 = m) ∨ (0 < n ∧ n = m) := by rw [← hm]; split <;> omega
  clear hm
  rcases hmm with ⟨hneg, rfl⟩ | ⟨hneg, rfl⟩
  all_goals
    go_wp2_with fail
    refine (refFromInt_any _ _ (by omega) (by omega)).mono ?_
    rintro e w1 ⟨v1, rfl, hv1, hb1⟩
    have H1 := Lib.hid (And.intro hv1 (And.intro (HA.out.1.below hb1) (And.intro (HA.out.2.2.2.below hb1) (below_next' HA.out.2.2.1 hb1))))
    clear hv1 hb1
    go_wp2_with fail
    refine (HA.out.2.1 _ _ H1.out.2.1 H1.out.1).mono ?_
    rintro e w2 ⟨v2, rfl, hv2, hb2⟩
    have hB2 := H1.out.2.2.1.below hb2
    have hbb := below_next' H1.out.2.2.2 hb2
    have HV := Lib.hid hv2
    obtain ⟨zn, zl, zc, en, el, ec, rfl, _⟩ := hv2
    obtain ⟨⟨x0, x1, x2⟩, j0, j1, j2⟩ := hB2.three
    have HF := Lib.hid (And.intro hbb hB2)
    clear hB2 hbb hb2
    go_wp2
    obtain ⟨e1, e2⟩ := ratC_end HF.out.1 HF.out.2 HV.out
    obtain ⟨⟨x0, x1, x2⟩, _⟩ := (HF.out.2.store3 (.bool (decide (S.num < 0))) (.slice zn zl zc) (.slice en el ec)).three
    exact bodyPost_ret (v := .tuple #[.agg #[.bool (decide (S.num < 0)), .slice zn zl zc, .slice en el ec], .bool true]) (by simp [results, Try.results26, go_sem, x0, x1, x2]) rfl ⟨_, rfl, e1, e2⟩
end Go.Proofs.Ytdpiclmjdcjajaa

/-
  The walk of the law BinomialEvals. No conditions.
-/
namespace Go.Proofs.Ytdpiclmjdcjajaa
open Go.ChangeShapes Go.WideShapes Go.ChangeAt Go.RowKit Go.Deep Num

def RatsP40 (n : Nat) (sm : Nat → Bool) (w : World) (e : Ending) (w' : World) : Prop := ∃ b, e = .returned (.bool b) ∧ (b = true → n ≤ 40 ∧ ∀ i, i < n → sm i = true) ∧ Below w.heap.size w w'

set_option maxHeartbeats 2000000 in
theorem rats40_any (a : Option Addr) (n cap : Nat) (f : Nat → Rat) (sm : Nat → Bool) (w : World) (hn : n ≤ 9223372036854775807) (h : ∀ i, i < n → ElemAt w a i f sm) :
    Calls Try.prog 24 #[.slice a n cap, .int .i64 40] w (RatsP40 n sm w) := by
  go_enter Try.func24, Try.ntmps24
  go_wp2
  go_loopw [5] (fun i wr => ∃ q : Nat, i = .int .i64 q ∧ q ≤ n ∧ q ≤ 41 ∧ (∀ j, j < q → sm j = true) ∧ Below w.heap.size w wr) (fun i _ => 41 - (intOf i).toNat)
  case atStart => exact ⟨0, rfl, Nat.zero_le _, by omega, fun j hj => by omega, Below.refl _ _⟩
  case round =>
    obtain ⟨q, rfl, hq, hq13, hsm, hbel⟩ := hrel
    by_cases hlt : q < n ∧ q ≤ 40
    · obtain ⟨b, o, neg, an, m, cn, ad, m2, cd, k, rfl, c0, c1, c2, hr, hs⟩ := (h q hlt.1).below hbel
      have h1 := hlt.1
      have h2 := hlt.2
      have HS := Lib.hid (And.intro hsm (And.intro hbel hs))
      clear hlt hsm hbel hs hr
      go_wp2_with fail
      refine (keepRat_any _ _ _ _ _ _ _ _).mono ?_
      rintro e w1 ⟨rfl, hb1⟩
      rw [← HS.out.2.2]
      have HB := Lib.hid (below_next' HS.out.2.1 hb1)
      clear c0 c1 c2 hb1
      cases hsq : sm q
      · go_wp2
        go_ret
        exact ⟨false, rfl, fun e => (by cases e), HB.out⟩
      · have HQ := Lib.hid hsq
        go_wp2
        go_round
        case rel =>
          refine ⟨q + 1, by go_num, by omega, by omega, fun j hj => ?_, HB.out⟩
          rcases Nat.lt_or_ge j q with h | h
          · exact HS.out.1 j h
          · rw [show j = q by omega]; exact HQ.out
        case measure => simp [intOf]; omega
    · have HS := Lib.hid (And.intro hsm (And.intro hbel hlt))
      clear hsm hbel
      by_cases h1 : q < n
      · have h2 : ¬ q ≤ 40 := fun h => hlt ⟨h1, h⟩
        clear hlt
        go_wp2
        go_ret
        refine ⟨_, rfl, fun e => ?_, HS.out.2.1⟩
        simp at e
        omega
      · clear hlt
        go_wp2
        go_ret
        refine ⟨_, rfl, fun e => ?_, HS.out.2.1⟩
        simp at e
        exact ⟨by omega, fun i hi => HS.out.1 i (by omega)⟩


theorem rats_cap {H : Type} {enc : TypeId × Value → H} {W : World} {sp : Nat → Bool} {held : Bool} {fuel : Nat} {a : Option Addr} {n cap : Nat} {x : DataW H × List MemPlace} (hf : DataW.trod enc Try.prog W 0 sp held fuel 32 [.slice a n cap] = some x) :
    n ≤ cap ∧ cap ≤ 9223372036854775807 := by
  rcases open_slice Try.underlying32 hf with ⟨hcs, _⟩ | ⟨ad, len, cap', m, n', D, Pl, hcs, _, hl, hm, hmm, _, hi⟩
  · simp at hcs
    omega
  · simp at hcs
    unfold maxLen at hm
    omega
theorem lstA_of {w : World} {a : Option Addr} {n cap : Nat} {f : Nat → Rat} {sm : Nat → Bool} (h : ∀ i, i < n → ElemAt w a i f sm) (hs : ∀ i, i < n → sm i = true) (h1 : n ≤ cap) (h2 : cap ≤ 9223372036854775807) :
    LstA w (.slice a n cap) n 8 f ∧ ∀ i, i < n → Sz (f i) 9 := by
  constructor
  · refine ⟨a, cap, rfl, h1, h2, fun i hi => ?_⟩
    obtain ⟨b, o, neg, an, m, cn, ad, m2, cd, k, e, c0, c1, c2, hr, he⟩ := h i hi
    rw [hs i hi] at he
    have he' := of_decide_eq_true he.symm
    exact ⟨b, o, _, _, _, e, c0, c1, c2, (hr.le he'.1 he'.2).a⟩
  · intro i hi
    obtain ⟨b, o, neg, an, m, cn, ad, m2, cd, k, e, c0, c1, c2, hr, he⟩ := h i hi
    rw [hs i hi] at he
    have he' := of_decide_eq_true he.symm
    exact (hr.le he'.1 he'.2).sz

theorem eval_both (a : Option Addr) (n cap : Nat) (f : Nat → Rat) (x : Int) (hn : n ≤ 40) (hf : ∀ i, i < n → Sz (f i) 9) (x1 : -9223372036854775808 ≤ x) (x2 : x ≤ 9223372036854775807) :
    ∃ q c, Sz q 9000 ∧ (∀ W, LstA W (.slice a n cap) n 8 f → Calls Try.prog 25 #[.slice a n cap, .int .i64 x] W (OkP q c W)) ∧ (∀ W, LstA W (.slice a n cap) n 8 f → Calls Try.prog 26 #[.slice a n cap, .int .i64 x] W (OkP q c W)) := by
  by_cases h : n ≤ 33
  · have hp : ∀ i, i < n → Sz (f i * chQ x i) 267 := fun i hi => by
      have hc : Sz (chQ x i) 257 := by
        unfold chQ
        exact sz_le (sz_rz (sz_int (by split <;> omega) (by split <;> omega)) i (by omega)) (by omega)
      exact sz_mul (a := 9) (b := 257) (hf i hi) hc
    refine ⟨evQ f n x, true, ?_, fun W hl => eval_all _ n 8 267 f x W hl h (by omega) (by omega) hp x1 x2, fun W hl => refEval_all a n cap f x W hl h hf x1 x2⟩
    unfold evQ
    exact sz_le (sz_sumK hp n (Nat.le_refl _)) (by omega)
  · exact ⟨0, false, sz_le sz_zero3 (by decide), fun W _ => eval_out a n cap x W (by omega) (by omega), fun W _ => refEval_out a n cap x W (by omega) (by omega)⟩

end Go.Proofs.Ytdpiclmjdcjajaa
