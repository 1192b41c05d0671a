/-
  A region that draws its order and in which each slot is written once: what is known of each slot behind it, whatever the order. Of any program.
-/
import Derived.Test.YtdpiclmjdcjajaaTwo
namespace Go.Proofs.Ytdpiclmjdcjajaa
open Go.RowKit

/-- The slot that an operation of the region writes. -/
def slotAt (ops : Array Oper) (j : Nat) : Option Tmp := (ops[j]?).bind (·.dst)

/-- Each slot is written once, and whoever reads it comes behind its writer. -/
def flowOk (ops : Array Oper) : Bool :=
  (List.range ops.size).all fun i => match ops[i]? with
    | none => true
    | some o =>
      (o.after.all fun e => !Region.binds .any e || decide (e.on < i)) &&
      (match o.dst with
        | none => true
        | some d => (List.range ops.size).all fun j => j == i || slotAt ops j != some d) &&
      (o.looksAt ops).all fun t => ((List.range ops.size).all fun j => slotAt ops j != some t) || o.after.any fun e => Region.binds .any e && slotAt ops e.on == some t

/-- The slots of the frame are there. -/
def flowRoom (ops : Array Oper) (n : Nat) : Bool := (List.range ops.size).all fun i => match slotAt ops i with | none => true | some d => decide (d < n)

/-- The slots that are read and not written are these. -/
def flowOuts (ops : Array Oper) (L : List Tmp) : Bool :=
  (List.range ops.size).all fun i => match ops[i]? with
    | none => true
    | some o => (o.looksAt ops).all fun t => L.contains t || (List.range ops.size).any fun j => slotAt ops j == some t

/-- The slot is not written. -/
def flowFree (ops : Array Oper) (t : Tmp) : Bool := (List.range ops.size).all fun j => slotAt ops j != some t

theorem free_of {ops : Array Oper} {t : Tmp} (h : flowFree ops t = true) : ∀ j, slotAt ops j ≠ some t := by
  intro j hj
  have hlt : j < ops.size := by
    rcases Nat.lt_or_ge j ops.size with h | h
    · exact h
    · unfold slotAt at hj
      rw [Array.getElem?_eq_none h] at hj
      cases hj
  unfold flowFree at h
  rw [List.all_eq_true] at h
  have := h j (by simpa using hlt)
  simp [hj] at this

/-- Is the operation wanted? -/
def flowWanted (G : Nat → Option Tmp) (o : Oper) (val : Tmp → Value) : Bool :=
  match o.guard with
  | none => true
  | some (j, want) => match G j with
    | none => false
    | some d => match val d with
      | .bool b => b == want
      | _ => false

section
variable (P : Program) (F : Tmp → World → Value → Prop) (G : Nat → Option Tmp)

/-- What one operation must do. -/
def FlowStep (o : Oper) : Prop :=
  ∀ (a : Act) (w : World) (Q : Exit → Act → World → Prop), (∀ t, (.tmp t ∈ o.op.operands.toList ∨ ∃ g, o.guard = some g ∧ G g.1 = some t) → F t w (a.tmps.getD t undef)) →
    (flowWanted G o (fun t => a.tmps.getD t undef) = true → o.wp P a w (fun a' w' => ∃ v, a' = a.put o.dst v ∧ Below w.heap.size w w' ∧ ∀ d, o.dst = some d → F d w' v) Q) ∧
    (flowWanted G o (fun t => a.tmps.getD t undef) = false → ∀ d, o.dst = some d → F d w undef)

/-- What each operation must do. -/
def FlowSteps : List Oper → Prop
  | [] => True
  | o :: r => FlowStep P F G o ∧ FlowSteps r
end

theorem flowSteps_get {P : Program} {F : Tmp → World → Value → Prop} {G : Nat → Option Tmp} : ∀ {l : List Oper} (_ : FlowSteps P F G l) {i : Nat} {o : Oper}, l[i]? = some o → FlowStep P F G o
  | [], _, i, o, h => by simp at h
  | x :: r, hs, 0, o, h => by
    obtain rfl : x = o := by simpa using h
    exact hs.1
  | x :: r, hs, i + 1, o, h => flowSteps_get hs.2 (by simpa using h)

theorem put_getD (a : Act) (d : Tmp) (v : Value) (t : Tmp) (hd : d < a.tmps.size) : (a.put (some d) v).tmps.getD t undef = if d = t then v else a.tmps.getD t undef := by
  by_cases h : d = t
  · subst h
    rw [if_pos rfl, put_get _ _ _ hd]
  · rw [if_neg h, put_other _ _ _ _ h]

theorem flow_wanted {ops : Array Oper} {a : Act} {o : Oper} (hroom : flowRoom ops a.tmps.size = true) : Region.wanted o (yielded ops a.tmps) = flowWanted (slotAt ops) o (fun t => a.tmps.getD t undef) := by
  unfold Region.wanted flowWanted
  cases hg : o.guard with
  | none => rfl
  | some g =>
    obtain ⟨j, want⟩ := g
    simp only
    unfold yielded
    have e : ((ops[j]?).bind (·.dst)) = slotAt ops j := rfl
    rw [e]
    cases hs : slotAt ops j with
    | none => simp
    | some d =>
      have hj : j < ops.size := by
        rcases Nat.lt_or_ge j ops.size with h | h
        · exact h
        · unfold slotAt at hs
          rw [Array.getElem?_eq_none h] at hs
          cases hs
      have hd : d < a.tmps.size := by
        unfold flowRoom at hroom
        rw [List.all_eq_true] at hroom
        have := hroom j (by simpa using hj)
        rw [hs] at this
        simpa using this
      simp only [Option.bind_some, Array.getElem?_eq_getElem hd, Array.getD_eq_getD_getElem?, Option.getD_some]
      generalize a.tmps[d] = v
      cases v <;> simp

/-- What is known while the region runs. -/
structure FlowI (F : Tmp → World → Value → Prop) (ops : Array Oper) (A : Act) (W : World) (l : Array Bool) (a : Act) (w : World) : Prop where
  B : Below W.heap.size W w
  size : a.tmps.size = A.tmps.size
  defers : a.defers = A.defers
  lsize : l.size = ops.size
  facts : ∀ t, ((∃ (i : Nat) (o : Oper), ops[i]? = some o ∧ (t ∈ o.looksAt ops ∨ o.dst = some t))) → (∀ j, slotAt ops j = some t → l.getD j true = true) → F t w (a.tmps.getD t undef)
  out : ∀ t, (∀ j, slotAt ops j ≠ some t) → a.tmps.getD t undef = A.tmps.getD t undef

theorem looksAt_mem {ops : Array Oper} {o : Oper} {t : Tmp} (h : .tmp t ∈ o.op.operands.toList ∨ ∃ g, o.guard = some g ∧ slotAt ops g.1 = some t) : t ∈ o.looksAt ops := by
  unfold Oper.looksAt
  rw [List.mem_append]
  rcases h with h | ⟨g, hg, hs⟩
  · exact .inl (List.mem_filterMap.2 ⟨_, h, rfl⟩)
  · right
    obtain ⟨j, b⟩ := g
    rw [hg]
    simp only
    unfold slotAt at hs
    rw [hs]
    simp

set_option maxHeartbeats 1000000 in
theorem region_flow {P : Program} (F : Tmp → World → Value → Prop) {ops : Array Oper} {Q : Exit → Act → World → Prop} {id : Nat} {A : Act} {W : World} (hm : P.follows .mixedOrders = true)
    (mono : ∀ t w w' v, Below w.heap.size w w' → F t w v → F t w' v)
    (n : Nat) (hn : A.tmps.size = n) (hok : flowOk ops = true) (hroom : flowRoom ops n = true)
    (L : List Tmp) (hL : flowOuts ops L = true) (h0 : ∀ t ∈ L, F t W (A.tmps.getD t undef))
    (hdraw : ∀ t v, F t W v → F t { W with drawn := W.drawn + 1 } v)
    (steps : FlowSteps P F (slotAt ops) ops.toList)
    (fin : ∀ a w, Below W.heap.size W w → a.tmps.size = A.tmps.size → a.defers = A.defers → (∀ i d, slotAt ops i = some d → F d w (a.tmps.getD d undef)) → (∀ t, (∀ j, slotAt ops j ≠ some t) → a.tmps.getD t undef = A.tmps.getD t undef) → Q .normal a w) :
    (Code.region id ops true).wp P Q A W := by
  subst hn
  unfold flowOk at hok
  rw [List.all_eq_true] at hok
  refine region_inv hm (FlowI F ops A W) ?_ ?_ ?_
  · refine ⟨(Below.refl _ _).drew, rfl, rfl, by simp, fun t ⟨i, o, hi, hto⟩ hl => ?_, fun _ _ => rfl⟩
    have hno : ∀ j, slotAt ops j ≠ some t := by
      intro j hj
      have hlt : j < ops.size := by
        rcases Nat.lt_or_ge j ops.size with h | h
        · exact h
        · unfold slotAt at hj
          rw [Array.getElem?_eq_none h] at hj
          cases hj
      have := hl j hj
      simp [Array.getD_eq_getD_getElem?, hlt] at this
    rcases hto with hto | hto
    · refine hdraw _ _ (h0 t ?_)
      unfold flowOuts at hL
      rw [List.all_eq_true] at hL
      have hlt : i < ops.size := by
        rcases Nat.lt_or_ge i ops.size with h | h
        · exact h
        · rw [Array.getElem?_eq_none h] at hi
          cases hi
      have := hL i (by simpa using hlt)
      rw [hi] at this
      simp only [List.all_eq_true, Bool.or_eq_true, List.any_eq_true, List.mem_range, beq_iff_eq] at this
      rcases this t hto with h | ⟨j, _, h⟩
      · simpa using h
      · exact absurd h (hno j)
    · exact absurd (show slotAt ops i = some t by unfold slotAt; rw [hi]; exact hto) (hno i)
  · intro i l a w hi hI
    have hlt := (ready_left hi)
    obtain ⟨o, ho⟩ : ∃ o, ops[i]? = some o := ⟨_, Array.getElem?_eq_getElem hlt.1⟩
    have hoki := hok i (by simpa using hlt.1)
    rw [ho] at hoki
    simp only [Bool.and_eq_true, List.all_eq_true, Bool.or_eq_true, bne_iff_ne, ne_eq, List.mem_range, Array.any_eq_true', beq_iff_eq] at hoki
    obtain ⟨⟨_, huniq⟩, hlooks⟩ := hoki
    have hready : ∀ e ∈ o.after, Region.binds .any e = true → l.getD e.on false = true := by
      have hi' := hi
      simp only [Region.ready, List.mem_filter, List.mem_range, Bool.and_eq_true, ho, Option.map_some, Option.getD_some, Array.all_eq_true', Bool.or_eq_true, Bool.not_eq_true'] at hi'
      intro e he hb
      rcases hi'.2.2 e he with h | h
      · rw [hb] at h; cases h
      · exact h
    have huniqj : ∀ d, o.dst = some d → ∀ j, slotAt ops j = some d → j = i := by
      intro d hd j hj
      rw [hd] at huniq
      simp only [List.all_eq_true, List.mem_range, Bool.or_eq_true, beq_iff_eq, bne_iff_ne, ne_eq] at huniq
      have hlt : j < ops.size := by
        rcases Nat.lt_or_ge j ops.size with h | h
        · exact h
        · unfold slotAt at hj
          rw [Array.getElem?_eq_none h] at hj
          cases hj
      rcases huniq j hlt with h | h
      · exact h
      · exact absurd hj h
    have hfacts : ∀ t, (.tmp t ∈ o.op.operands.toList ∨ ∃ g, o.guard = some g ∧ slotAt ops g.1 = some t) → F t w (a.tmps.getD t undef) := by
      intro t ht
      have hmem := looksAt_mem ht
      refine hI.facts t ⟨i, o, ho, .inl hmem⟩ ?_
      intro j hj
      rcases hlooks t hmem with h | ⟨e, he, hb, hs⟩
      · have hlt : j < ops.size := by
          rcases Nat.lt_or_ge j ops.size with h | h
          · exact h
          · unfold slotAt at hj
            rw [Array.getElem?_eq_none h] at hj
            cases hj
        exact absurd hj (h j hlt)
      · have hl := hready e he hb
        have hje : j = e.on := by
          have hlt : e.on < ops.size := by
            rcases Nat.lt_or_ge e.on ops.size with h | h
            · exact h
            · unfold slotAt at hs
              rw [Array.getElem?_eq_none h] at hs
              cases hs
          have hoke := hok e.on (by simpa using hlt)
          obtain ⟨o', ho'⟩ : ∃ o', ops[e.on]? = some o' := ⟨_, Array.getElem?_eq_getElem hlt⟩
          rw [ho'] at hoke
          have hd' : o'.dst = some t := by unfold slotAt at hs; rw [ho'] at hs; exact hs
          simp only [Bool.and_eq_true, hd', List.all_eq_true, List.mem_range, Bool.or_eq_true, beq_iff_eq, bne_iff_ne, ne_eq] at hoke
          have hltj : j < ops.size := by
            rcases Nat.lt_or_ge j ops.size with h | h
            · exact h
            · unfold slotAt at hj
              rw [Array.getElem?_eq_none h] at hj
              cases hj
          rcases hoke.1.2 j hltj with h | h
          · exact h
          · exact absurd hj h
        rw [hje]
        have hlt : e.on < l.size := by
          rcases Nat.lt_or_ge e.on l.size with h | h
          · exact h
          · simp [Array.getD_eq_getD_getElem?, Array.getElem?_eq_none h] at hl
        simp only [Array.getD_eq_getD_getElem?, Array.getElem?_eq_getElem hlt, Option.getD_some] at hl ⊢
        exact hl
    have hst := flowSteps_get steps (i := i) (o := o) (by simpa using ho) a w Q hfacts
    have hw := flow_wanted (ops := ops) (a := a) (o := o) (by rw [hI.size]; exact hroom)
    have next : ∀ v w', Below w.heap.size w w' → (∀ d, o.dst = some d → F d w' v) → FlowI F ops A W (l.setIfInBounds i true) (a.put o.dst v) w' := by
      intro v w' hb hd
      have hlst : ∀ j, j ≠ i → (l.setIfInBounds i true).getD j true = l.getD j true := by
        intro j hj
        have : i ≠ j := fun e => hj e.symm
        simp [Array.getD_eq_getD_getElem?, this]
      have hdlt : ∀ d, o.dst = some d → d < a.tmps.size := by
        intro d hd'
        rw [hI.size]
        unfold flowRoom at hroom
        rw [List.all_eq_true] at hroom
        have := hroom i (by simpa using hlt.1)
        have hs : slotAt ops i = some d := by unfold slotAt; rw [ho]; exact hd'
        rw [hs] at this
        simpa using this
      refine ⟨below_next hI.B hb, by rw [put_size]; exact hI.size, ?_, by simpa using hI.lsize, ?_, ?_⟩
      · cases o.dst <;> exact hI.defers
      · intro t ht hl
        cases hdst : o.dst with
        | none =>
          show F t w' (a.tmps.getD t undef)
          refine mono t w w' _ hb (hI.facts t ht fun j hj => ?_)
          have hne : j ≠ i := by
            rintro rfl
            unfold slotAt at hj
            rw [ho] at hj
            simp only [Option.bind_some, hdst] at hj
            cases hj
          rw [← hlst j hne]
          exact hl j hj
        | some d =>
          rw [put_getD _ _ _ _ (hdlt d hdst)]
          by_cases h : d = t
          · rw [if_pos h]
            subst h
            exact hd d hdst
          · rw [if_neg h]
            refine mono t w w' _ hb (hI.facts t ht fun j hj => ?_)
            have hne : j ≠ i := by
              rintro rfl
              unfold slotAt at hj
              rw [ho] at hj
              simp only [Option.bind_some, hdst] at hj
              exact h (Option.some.inj hj)
            rw [← hlst j hne]
            exact hl j hj
      · intro t ht
        cases hdst : o.dst with
        | none => exact hI.out t ht
        | some d =>
          rw [put_getD _ _ _ _ (hdlt d hdst), if_neg, hI.out t ht]
          rintro rfl
          exact ht i (by unfold slotAt; rw [ho]; exact hdst)
    unfold wpOp
    rw [ho]
    simp only
    rw [hw]
    by_cases hwant : flowWanted (slotAt ops) o (fun t => a.tmps.getD t undef) = true
    · rw [if_pos hwant]
      left
      refine Oper.wp_mono ?_ (hst.1 hwant)
      rintro a' w' ⟨v, rfl, hb, hd⟩
      exact next v w' hb hd
    · rw [if_neg hwant]
      exact next undef w (Below.refl _ _) (hst.2 (by simpa using hwant))
  · intro l a w hr hI
    have hall : ∀ j, j < ops.size → l.getD j true = true := by
      intro j
      induction j using Nat.strongRecOn with
      | ind j ih =>
        intro hj
        by_cases hl : l.getD j true = true
        · exact hl
        · exfalso
          have hokj := hok j (by simpa using hj)
          obtain ⟨o, ho⟩ : ∃ o, ops[j]? = some o := ⟨_, Array.getElem?_eq_getElem hj⟩
          rw [ho] at hokj
          simp only [Bool.and_eq_true, Array.all_eq_true', Bool.or_eq_true, Bool.not_eq_true', decide_eq_true_eq] at hokj
          have hmem : j ∈ Region.ready .any ops l := by
            simp only [Region.ready, List.mem_filter, List.mem_range, Bool.and_eq_true, ho, Option.map_some, Option.getD_some, Array.all_eq_true', Bool.or_eq_true, Bool.not_eq_true']
            refine ⟨hj, by simpa using hl, fun e he => ?_⟩
            rcases hokj.1.1 e he with h | h
            · exact .inl h
            · right
              have h1 := ih e.on h (by omega)
              have hlt : e.on < l.size := by rw [hI.lsize]; omega
              simp [Array.getD_eq_getD_getElem?, hlt] at h1 ⊢
              exact h1
          rw [hr] at hmem
          cases hmem
    refine fin a w hI.B hI.size hI.defers (fun i d hd => hI.facts d ?_ ?_) hI.out
    · have hlt : i < ops.size := by
        rcases Nat.lt_or_ge i ops.size with h | h
        · exact h
        · unfold slotAt at hd
          rw [Array.getElem?_eq_none h] at hd
          cases hd
      exact ⟨i, _, Array.getElem?_eq_getElem hlt, .inr (by unfold slotAt at hd; rw [Array.getElem?_eq_getElem hlt] at hd; exact hd)⟩
    · intro j hj
      have hlt : j < ops.size := by
        rcases Nat.lt_or_ge j ops.size with h | h
        · exact h
        · unfold slotAt at hj
          rw [Array.getElem?_eq_none h] at hj
          cases hj
      exact hall j hlt

/-- The operation's guard lets it by. -/
def GuardYes (F : Tmp → World → Value → Prop) (G : Nat → Option Tmp) (g : Option (Nat × Bool)) : Prop :=
  match g with
  | none => True
  | some (j, b) => ∃ d, G j = some d ∧ ∀ w v, F d w v → v = .bool b

theorem step_yes {P : Program} {F : Tmp → World → Value → Prop} {G : Nat → Option Tmp} {o : Oper} (hg : GuardYes F G o.guard)
    (h : ∀ (a : Act) (w : World) (Q : Exit → Act → World → Prop), (∀ t, .tmp t ∈ o.op.operands.toList → F t w (a.tmps.getD t undef)) → o.wp P a w (fun a' w' => ∃ v, a' = a.put o.dst v ∧ Below w.heap.size w w' ∧ ∀ d, o.dst = some d → F d w' v) Q) :
    FlowStep P F G o := by
  intro a w Q hf
  refine ⟨fun _ => h a w Q fun t ht => hf t (.inl ht), fun hw => ?_⟩
  exfalso
  unfold flowWanted at hw
  unfold GuardYes at hg
  cases hgd : o.guard with
  | none => rw [hgd] at hw; simp at hw
  | some g =>
    obtain ⟨j, b⟩ := g
    rw [hgd] at hw hg
    simp only at hw hg
    obtain ⟨d, hd, hv⟩ := hg
    have := hv w _ (hf d (.inr ⟨(j, b), hgd, hd⟩))
    rw [hd] at hw
    simp [this] at hw

theorem step_no {P : Program} {F : Tmp → World → Value → Prop} {G : Nat → Option Tmp} {o : Oper} {j : Nat} {b : Bool} {d : Tmp} (hg : o.guard = some (j, b)) (hd : G j = some d) (hv : ∀ w v, F d w v → v = .bool (!b))
    (h : ∀ w d, o.dst = some d → F d w undef) : FlowStep P F G o := by
  intro a w Q hf
  refine ⟨fun hw => ?_, fun _ => h w⟩
  exfalso
  have := hv w _ (hf d (.inr ⟨(j, b), hg, hd⟩))
  unfold flowWanted at hw
  rw [hg] at hw
  simp only [hd, this] at hw
  cases b <;> simp at hw

end Go.Proofs.Ytdpiclmjdcjajaa
