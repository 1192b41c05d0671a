/-
  A region that draws its order and ends with operations in one forced order (stores): what is known of each slot ahead of them, whatever the order; new blocks are apart from each other. Of any program.
-/
import Derived.Test.YtafhepbplffmeaaDoorFlow
import Derived.Test.YtafhepbplffmeaaDoorR12
namespace Go.Proofs.YtafhepbplffmeaaDoor
open Go.RowKit

theorem slot_lt {ops : Array Oper} {j : Nat} {t : Tmp} (hj : slotAt ops j = some t) : j < ops.size := by
  rcases Nat.lt_or_ge j ops.size with h | h
  · exact h
  · unfold slotAt at hj
    rw [Array.getElem?_eq_none h] at hj
    cases hj

/-- What comes ahead of each operation, by edges and by edges of edges. -/
def aheadOf (ops : Array Oper) : List (List Nat) :=
  ops.toList.foldl (fun M o => M ++ [((o.after.toList.filter (Region.binds .any)).flatMap fun e => e.on :: M.getD e.on []).eraseDups]) []

/-- The list says no more than the edges give. -/
def aheadOk (ops : Array Oper) (M : List (List Nat)) : Bool :=
  (List.range ops.size).all fun i => match ops[i]? with
    | none => true
    | some o => (M.getD i []).all fun j => o.after.any fun e => Region.binds .any e && (e.on == j || (M.getD e.on []).contains j)

/-- From the k-th on each comes behind all ahead of it. -/
def tailOk (ops : Array Oper) (M : List (List Nat)) (k : Nat) : Bool :=
  decide (k ≤ ops.size) && (List.range ops.size).all fun i => decide (i < k) || (List.range i).all fun j => (M.getD i []).contains j

/-- The operations from m on, in their order. -/
def runFrom (P : Program) (ops : Array Oper) (Q : Exit → Act → World → Prop) : Nat → Nat → Act → World → Prop
  | 0, _, a, w => Q .normal a w
  | n + 1, m, a, w => wpOp P ops Q m (runFrom P ops Q n (m + 1)) a w

section
variable (P : Program) (F : Tmp → World → Value → Prop) (G : Nat → Option Tmp) (N : List Tmp) (B : Nat)

/-- What one operation must do; a slot of N gets a new block. -/
def FlowStepN (o : Oper) : Prop :=
  ∀ (a : Act) (w : World) (Q : Exit → Act → World → Prop), B ≤ w.heap.size → (∀ t, (.tmp t ∈ o.op.operands.toList ∨ ∃ g, o.guard = some g ∧ G g.1 = some t) → F t w (a.tmps.getD t undef)) →
    (flowWanted G o (fun t => a.tmps.getD t undef) = true → o.wp P a w (fun a' w' => ∃ v, a' = a.put o.dst v ∧ Below w.heap.size w w' ∧ ∀ d, o.dst = some d → F d w' v ∧ (d ∈ N → v = .pointer (some ⟨w.heap.size, 0, none⟩))) Q) ∧
    (flowWanted G o (fun t => a.tmps.getD t undef) = false → ∀ d, o.dst = some d → F d w undef ∧ d ∉ N)

def FlowStepsN : Nat → List Oper → Prop
  | 0, _ => True
  | _ + 1, [] => True
  | k + 1, o :: r => FlowStepN P F G N B o ∧ FlowStepsN k r
end

theorem flowStepsN_get {P : Program} {F : Tmp → World → Value → Prop} {G : Nat → Option Tmp} {N : List Tmp} {B : Nat} : ∀ {k : Nat} {l : List Oper} (_ : FlowStepsN P F G N B k l) {i : Nat} {o : Oper}, i < k → l[i]? = some o → FlowStepN P F G N B o
  | 0, _, _, _, _, h, _ => by omega
  | k + 1, [], _, i, o, _, h => by simp at h
  | k + 1, x :: r, hs, 0, o, _, h => by
    obtain rfl : x = o := by simpa using h
    exact hs.1
  | k + 1, x :: r, hs, i + 1, o, hk, h => flowStepsN_get (k := k) (l := r) hs.2 (i := i) (o := o) (Nat.lt_of_succ_lt_succ hk) (by simpa using h)

theorem flowN_of {P : Program} {F : Tmp → World → Value → Prop} {G : Nat → Option Tmp} {N : List Tmp} {B : Nat} {o : Oper} (h : FlowStep P F G o) (hN : ∀ d, o.dst = some d → d ∉ N) : FlowStepN P F G N B o := by
  intro a w Q _ hf
  obtain ⟨h1, h2⟩ := h a w Q hf
  refine ⟨fun hw => Oper.wp_mono ?_ (h1 hw), fun hw d hd => ⟨h2 hw d hd, hN d hd⟩⟩
  rintro a' w' ⟨v, e, hb, hd⟩
  exact ⟨v, e, hb, fun d hd' => ⟨hd d hd', fun hm => absurd hm (hN d hd')⟩⟩

/-- What is known while the free part of the region runs. -/
structure FlowJ (F : Tmp → World → Value → Prop) (ops : Array Oper) (k : Nat) (N : List Tmp) (A : Act) (W : World) (l : Array Bool) (a : Act) (w : World) : Prop where
  B : Below W.heap.size W w
  size : a.tmps.size = A.tmps.size
  defers : a.defers = A.defers
  lsize : l.size = ops.size
  closed : ∀ (i : Nat) (o : Oper), ops[i]? = some o → l.getD i true = true → ∀ e ∈ o.after, Region.binds .any e = true → l.getD e.on true = true
  rest : ∀ j, k ≤ j → j < ops.size → l.getD j true = false
  facts : ∀ t, (∃ (i : Nat) (o : Oper), ops[i]? = some o ∧ i < k ∧ (t ∈ o.looksAt ops ∨ o.dst = some t)) → (∀ j, slotAt ops j = some t → l.getD j true = true) → F t w (a.tmps.getD t undef)
  out : ∀ t, (∀ j, slotAt ops j ≠ some t) → a.tmps.getD t undef = A.tmps.getD t undef
  apart : ∀ i j s t, i ≠ j → slotAt ops i = some s → slotAt ops j = some t → s ∈ N → t ∈ N → l.getD i true = true → l.getD j true = true → a.tmps.getD s undef ≠ a.tmps.getD t undef

/-- The k operations at the front have slots that no other writes. -/
def flowOkN (ops : Array Oper) (k : Nat) : Bool :=
  (List.range ops.size).all fun i => match ops[i]? with
    | none => true
    | some o =>
      (o.after.all fun e => !Region.binds .any e || decide (e.on < i)) &&
      (match o.dst with
        | none => true
        | some d => (List.range ops.size).all fun j => j == i || slotAt ops j != some d) &&
      (decide (k ≤ i) || (o.looksAt ops).all fun t => ((List.range ops.size).all fun j => slotAt ops j != some t) || o.after.any fun e => Region.binds .any e && slotAt ops e.on == some t)

def flowOutsN (ops : Array Oper) (k : Nat) (L : List Tmp) : Bool :=
  (List.range k).all fun i => match ops[i]? with
    | none => true
    | some o => (o.looksAt ops).all fun t => L.contains t || (List.range ops.size).any fun j => slotAt ops j == some t

theorem ahead_listed {ops : Array Oper} {l : Array Bool} {M : List (List Nat)} (hM : aheadOk ops M = true) (hback : ∀ (i : Nat) (o : Oper), ops[i]? = some o → ∀ e ∈ o.after, Region.binds .any e = true → e.on < i)
    (hc : ∀ (i : Nat) (o : Oper), ops[i]? = some o → l.getD i true = true → ∀ e ∈ o.after, Region.binds .any e = true → l.getD e.on true = true) :
    ∀ (i : Nat) (o : Oper), ops[i]? = some o → (∀ e ∈ o.after, Region.binds .any e = true → l.getD e.on true = true) → ∀ j ∈ M.getD i [], l.getD j true = true := by
  intro i
  induction i using Nat.strongRecOn with
  | ind i ih =>
    intro o ho he j hj
    have hlt : i < ops.size := by
      rcases Nat.lt_or_ge i ops.size with h | h
      · exact h
      · rw [Array.getElem?_eq_none h] at ho
        cases ho
    unfold aheadOk at hM
    rw [List.all_eq_true] at hM
    have := hM i (by simpa using hlt)
    rw [ho] at this
    simp only [List.all_eq_true, Array.any_eq_true', Bool.and_eq_true, Bool.or_eq_true, beq_iff_eq, List.contains_iff_mem] at this
    obtain ⟨e, hem, hb, h⟩ := this j hj
    have hel := he e hem hb
    rcases h with rfl | h
    · exact hel
    · have hlt' := hback i o ho e hem hb
      obtain ⟨o', ho'⟩ : ∃ o', ops[e.on]? = some o' := ⟨_, Array.getElem?_eq_getElem (by omega)⟩
      exact ih e.on hlt' o' ho' (hc e.on o' ho' hel) j h

theorem getD_le {l : Array Bool} {i : Nat} (h : i < l.size) (b c : Bool) : l.getD i b = l.getD i c := by
  simp [Array.getD_eq_getD_getElem?, h]

set_option maxHeartbeats 2000000 in
theorem region_flow_tail {P : Program} (F : Tmp → World → Value → Prop) {ops : Array Oper} {Q : Exit → Act → World → Prop} {id : Nat} {A : Act} {W : World} (hm : P.follows .mixedOrders = true)
    (mono : ∀ t w w' v, Below w.heap.size w w' → F t w v → F t w' v)
    (n k : Nat) (N : List Tmp) (hn : A.tmps.size = n) (hok : flowOkN ops k = true) (hroom : flowRoom ops n = true) (hM : aheadOk ops (aheadOf ops) = true) (hT : tailOk ops (aheadOf ops) k = true)
    (hN : ∀ t ∈ N, ∀ w v, F t w v → ∃ g, v = .pointer (some ⟨g, 0, none⟩) ∧ g < w.heap.size)
    (L : List Tmp) (hL : flowOutsN ops k L = true) (h0 : ∀ t ∈ L, F t W (A.tmps.getD t undef))
    (hdraw : ∀ t v, F t W v → F t { W with drawn := W.drawn + 1 } v)
    (steps : FlowStepsN P F (slotAt ops) N W.heap.size k ops.toList)
    (fin : ∀ a w, Below W.heap.size W w → a.tmps.size = A.tmps.size → a.defers = A.defers → (∀ i d, i < k → slotAt ops i = some d → F d w (a.tmps.getD d undef)) → (∀ t, (∀ j, slotAt ops j ≠ some t) → a.tmps.getD t undef = A.tmps.getD t undef) →
      (∀ i j s t, i < k → j < k → i ≠ j → slotAt ops i = some s → slotAt ops j = some t → s ∈ N → t ∈ N → a.tmps.getD s undef ≠ a.tmps.getD t undef) → runFrom P ops Q (ops.size - k) k a w) :
    (Code.region id ops true).wp P Q A W := by
  subst hn
  unfold flowOkN at hok
  rw [List.all_eq_true] at hok
  unfold tailOk at hT
  simp only [Bool.and_eq_true, decide_eq_true_eq, List.all_eq_true, List.mem_range, Bool.or_eq_true, List.contains_iff_mem] at hT
  obtain ⟨hkn, hT⟩ := hT
  have hback : ∀ (i : Nat) (o : Oper), ops[i]? = some o → ∀ e ∈ o.after, Region.binds .any e = true → e.on < i := by
    intro i o ho e he hb
    have hlt : i < ops.size := by
      rcases Nat.lt_or_ge i ops.size with h | h
      · exact h
      · rw [Array.getElem?_eq_none h] at ho
        cases ho
    have := hok i (by simpa using hlt)
    rw [ho] at this
    simp only [Bool.and_eq_true, Array.all_eq_true', Bool.or_eq_true, Bool.not_eq_true', decide_eq_true_eq] at this
    rcases this.1.1 e he with h | h
    · rw [hb] at h; cases h
    · exact h
  have huniq : ∀ i j d, slotAt ops i = some d → slotAt ops j = some d → i = j := by
    intro i j d hi hj
    have hlt := slot_lt hi
    have hltj := slot_lt hj
    have := hok i (by simpa using hlt)
    obtain ⟨o, ho⟩ : ∃ o, ops[i]? = some o := ⟨_, Array.getElem?_eq_getElem hlt⟩
    rw [ho] at this
    have hd : o.dst = some d := by unfold slotAt at hi; rw [ho] at hi; exact hi
    simp only [Bool.and_eq_true, hd, List.all_eq_true, List.mem_range, Bool.or_eq_true, beq_iff_eq, bne_iff_ne, ne_eq] at this
    rcases this.1.2 j hltj with h | h
    · exact h.symm
    · exact absurd hj h
  have hreadyE : ∀ {l : Array Bool} {i : Nat} {o : Oper}, i ∈ Region.ready .any ops l → ops[i]? = some o → ∀ e ∈ o.after, Region.binds .any e = true → l.getD e.on false = true := by
    intro l i o hi ho e he hb
    simp only [Region.ready, List.mem_filter, List.mem_range, Bool.and_eq_true, ho, Option.map_some, Option.getD_some, Array.all_eq_true', Bool.or_eq_true, Bool.not_eq_true'] at hi
    rcases hi.2.2 e he with h | h
    · rw [hb] at h; cases h
    · exact h
  have hlistE : ∀ {l : Array Bool} {j : Nat}, l.getD j false = true → l.getD j true = true := by
    intro l j h
    have hlt : j < l.size := by
      rcases Nat.lt_or_ge j l.size with h' | h'
      · exact h'
      · simp [Array.getD_eq_getD_getElem?, Array.getElem?_eq_none h'] at h
    rw [getD_le hlt true false]
    exact h
  have hmin : ∀ {l : Array Bool}, l.size = ops.size → (∃ j, j < ops.size ∧ l.getD j true = false) → Region.ready .any ops l ≠ [] := by
    intro l hls hex hr
    have key : ∀ j, j < ops.size → l.getD j true = true := by
      intro j
      induction j using Nat.strongRecOn with
      | ind j ih =>
        intro hj
        by_cases hl : l.getD j true = true
        · exact hl
        · exfalso
          obtain ⟨o, ho⟩ : ∃ o, ops[j]? = some o := ⟨_, Array.getElem?_eq_getElem hj⟩
          have hmem : j ∈ Region.ready .any ops l := by
            simp only [Region.ready, List.mem_filter, List.mem_range, Bool.and_eq_true, ho, Option.map_some, Option.getD_some, Array.all_eq_true', Bool.or_eq_true, Bool.not_eq_true']
            refine ⟨hj, by simpa using hl, fun e he => ?_⟩
            by_cases hb : Region.binds .any e = true
            · right
              have h := hback j o ho e he hb
              rw [getD_le (by omega) false true]
              exact ih e.on h (by omega)
            · left
              simpa using hb
          rw [hr] at hmem
          cases hmem
    obtain ⟨j, hj, hl⟩ := hex
    rw [key j hj] at hl
    cases hl
  let I : Array Bool → Act → World → Prop := fun l a w =>
    (∃ m, k ≤ m ∧ m ≤ ops.size ∧ l.size = ops.size ∧ (∀ j, j < ops.size → (l.getD j true = true ↔ j < m)) ∧ runFrom P ops Q (ops.size - m) m a w) ∨
    (FlowJ F ops k N A W l a w ∧ ∃ j, j < k ∧ l.getD j true = false)
  have enter : ∀ l a w, FlowJ F ops k N A W l a w → I l a w := by
    intro l a w hI
    by_cases hex : ∃ j, j < k ∧ l.getD j true = false
    · exact .inr ⟨hI, hex⟩
    · left
      have hall : ∀ j, j < k → l.getD j true = true := by
        intro j hj
        by_cases h : l.getD j true = true
        · exact h
        · exact absurd ⟨j, hj, by simpa using h⟩ hex
      refine ⟨k, Nat.le_refl _, hkn, hI.lsize, fun j hj => ⟨fun h => ?_, hall j⟩, fin a w hI.B hI.size hI.defers (fun i d hik hd => ?_) hI.out (fun i j s t hi hj hij hs ht hsN htN => ?_)⟩
      · rcases Nat.lt_or_ge j k with h' | h'
        · exact h'
        · have := hI.rest j h' hj
          rw [h] at this
          cases this
      · obtain ⟨o, ho⟩ : ∃ o, ops[i]? = some o := ⟨_, Array.getElem?_eq_getElem (slot_lt hd)⟩
        refine hI.facts d ⟨i, o, ho, hik, .inr (by unfold slotAt at hd; rw [ho] at hd; exact hd)⟩ fun j hj => ?_
        rw [huniq j i d hj hd]
        exact hall i hik
      · exact hI.apart i j s t hij hs ht hsN htN (hall i hi) (hall j hj)
  refine region_inv hm I ?_ ?_ ?_
  · refine enter _ _ _ ⟨(Below.refl _ _).drew, rfl, rfl, by simp, ?_, ?_, ?_, fun _ _ => rfl, ?_⟩
    · intro i o ho hl
      exfalso
      have hlt : i < ops.size := by
        rcases Nat.lt_or_ge i ops.size with h | h
        · exact h
        · rw [Array.getElem?_eq_none h] at ho
          cases ho
      simp [Array.getD_eq_getD_getElem?, hlt] at hl
    · intro j _ hj
      simp [Array.getD_eq_getD_getElem?, hj]
    · rintro t ⟨i, o, hi, hik, hto⟩ hl
      have hno : ∀ j, slotAt ops j ≠ some t := by
        intro j hj
        have hlt := slot_lt hj
        have := hl j hj
        simp [Array.getD_eq_getD_getElem?, hlt] at this
      rcases hto with hto | hto
      · refine hdraw _ _ (h0 t ?_)
        unfold flowOutsN at hL
        rw [List.all_eq_true] at hL
        have := hL i (by simpa using hik)
        rw [hi] at this
        simp only [List.all_eq_true, Bool.or_eq_true, List.any_eq_true, List.mem_range, beq_iff_eq] at this
        rcases this t hto with h | ⟨j, _, h⟩
        · simpa using h
        · exact absurd h (hno j)
      · exact absurd (show slotAt ops i = some t by unfold slotAt; rw [hi]; exact hto) (hno i)
    · intro i j s t _ hs _ _ _ hli
      exfalso
      have hlt := slot_lt hs
      simp [Array.getD_eq_getD_getElem?, hlt] at hli
  · intro i l a w hi hI
    have hlt := ready_left hi
    obtain ⟨o, ho⟩ : ∃ o, ops[i]? = some o := ⟨_, Array.getElem?_eq_getElem hlt.1⟩
    have hE := hreadyE hi ho
    rcases hI with ⟨m, hkm, hmn, hls, hlm, hrun⟩ | ⟨hI, j0, hj0, hl0⟩
    · have him : m ≤ i := by
        rcases Nat.lt_or_ge i m with h | h
        · have := (hlm i hlt.1).2 h
          rw [hlt.2] at this
          cases this
        · exact h
      have hcl : ∀ (i : Nat) (o : Oper), ops[i]? = some o → l.getD i true = true → ∀ e ∈ o.after, Region.binds .any e = true → l.getD e.on true = true := by
        intro i' o' ho' hl' e he hb
        have hb' := hback i' o' ho' e he hb
        have hlt' : i' < ops.size := by
          rcases Nat.lt_or_ge i' ops.size with h | h
          · exact h
          · rw [Array.getElem?_eq_none h] at ho'
            cases ho'
        exact (hlm e.on (by omega)).2 (by have := (hlm i' hlt').1 hl'; omega)
      have hahead := ahead_listed hM hback hcl i o ho (fun e he hb => hlistE (hE e he hb))
      have hmi : i = m := by
        rcases Nat.lt_or_ge m i with h | h
        · rcases hT i hlt.1 with h' | h'
          · omega
          · have := hahead m (h' m (by omega))
            have := (hlm m (by omega)).1 this
            omega
        · omega
      subst hmi
      have hsz : ops.size - i = (ops.size - (i + 1)) + 1 := by omega
      rw [hsz] at hrun
      refine wpOp_mono ?_ hrun
      intro a' w' hr'
      refine .inl ⟨i + 1, by omega, by omega, by simpa using hls, fun j hj => ?_, hr'⟩
      by_cases hji : i = j
      · subst hji
        simp [Array.getD_eq_getD_getElem?, hls, hj]
      · have := hlm j hj
        simp only [Array.getD_eq_getD_getElem?, Array.getElem?_setIfInBounds, hji, if_false] at this ⊢
        rw [this]
        omega
    · have hahead := ahead_listed hM hback hI.closed i o ho (fun e he hb => hlistE (hE e he hb))
      have hik : i < k := by
        rcases Nat.lt_or_ge i k with h | h
        · exact h
        · exfalso
          rcases hT i hlt.1 with h' | h'
          · omega
          · have := hahead j0 (h' j0 (by omega))
            rw [hl0] at this
            cases this
      have hoki := hok i (by simpa using hlt.1)
      rw [ho] at hoki
      simp only [Bool.and_eq_true, List.all_eq_true, Bool.or_eq_true, bne_iff_ne, ne_eq, List.mem_range, Array.any_eq_true', beq_iff_eq, decide_eq_true_eq] at hoki
      obtain ⟨_, hlooks⟩ := hoki
      have hlooks' := hlooks.resolve_left (by omega)
      have hfacts : ∀ t, (.tmp t ∈ o.op.operands.toList ∨ ∃ g, o.guard = some g ∧ slotAt ops g.1 = some t) → F t w (a.tmps.getD t undef) := by
        intro t ht
        have hmem := looksAt_mem ht
        refine hI.facts t ⟨i, o, ho, hik, .inl hmem⟩ ?_
        intro j hj
        rcases hlooks' t hmem with h | ⟨e, he, hb, hs⟩
        · exact absurd hj (h j (slot_lt hj))
        · rw [huniq j e.on t hj hs]
          exact hlistE (hE e he hb)
      have hst := flowStepsN_get steps (i := i) (o := o) hik (by simpa using ho) a w Q hI.B.size hfacts
      have hw := flow_wanted (ops := ops) (a := a) (o := o) (by rw [hI.size]; exact hroom)
      have next : ∀ v w', Below w.heap.size w w' → (∀ d, o.dst = some d → F d w' v ∧ (d ∈ N → v = .pointer (some ⟨w.heap.size, 0, none⟩))) → FlowJ F ops k N A W (l.setIfInBounds i true) (a.put o.dst v) w' := by
        intro v w' hb hd
        have hlst : ∀ j, j ≠ i → (l.setIfInBounds i true).getD j true = l.getD j true := by
          intro j hj
          have : i ≠ j := fun e => hj e.symm
          simp [Array.getD_eq_getD_getElem?, this]
        have hdlt : ∀ d, o.dst = some d → d < a.tmps.size := by
          intro d hd'
          rw [hI.size]
          unfold flowRoom at hroom
          rw [List.all_eq_true] at hroom
          have := hroom i (by simpa using hlt.1)
          have hs : slotAt ops i = some d := by unfold slotAt; rw [ho]; exact hd'
          rw [hs] at this
          simpa using this
        have hsl : slotAt ops i = o.dst := by unfold slotAt; rw [ho]; rfl
        have hold : ∀ t, (∀ j, slotAt ops j = some t → (l.setIfInBounds i true).getD j true = true) → o.dst ≠ some t → ∀ j, slotAt ops j = some t → l.getD j true = true := by
          intro t hl hne j hj
          have hne' : j ≠ i := by
            rintro rfl
            rw [hsl] at hj
            exact hne hj
          rw [← hlst j hne']
          exact hl j hj
        have hget : ∀ t, o.dst ≠ some t → (a.put o.dst v).tmps.getD t undef = a.tmps.getD t undef := by
          intro t hne
          cases hdst : o.dst with
          | none => rfl
          | some d =>
            rw [put_getD _ _ _ _ (hdlt d hdst), if_neg]
            rintro rfl
            exact hne hdst
        have hgot : ∀ t, o.dst = some t → (a.put o.dst v).tmps.getD t undef = v := by
          intro t he
          rw [he, put_getD _ _ _ _ (hdlt t he), if_pos rfl]
        refine ⟨below_next hI.B hb, by rw [put_size]; exact hI.size, ?_, by simpa using hI.lsize, ?_, ?_, ?_, ?_, ?_⟩
        · cases o.dst <;> exact hI.defers
        · intro i' o' ho' hl' e he hbd
          by_cases hii : i' = i
          · subst hii
            have e1 : o' = o := by rw [ho] at ho'; exact (Option.some.inj ho').symm
            subst e1
            by_cases hei : e.on = i'
            · have := hback i' o' ho' e he hbd
              omega
            · rw [hlst _ hei]
              exact hlistE (hE e he hbd)
          · rw [hlst i' hii] at hl'
            have := hI.closed i' o' ho' hl' e he hbd
            by_cases hei : e.on = i
            · rw [hei]
              have hls : i < l.size := by rw [hI.lsize]; exact hlt.1
              simp [Array.getD_eq_getD_getElem?, hls]
            · rw [hlst _ hei]
              exact this
        · intro j hj hjn
          rw [hlst j (by omega)]
          exact hI.rest j hj hjn
        · intro t ht hl
          by_cases he : o.dst = some t
          · rw [hgot t he]
            exact (hd t he).1
          · rw [hget t he]
            exact mono t w w' _ hb (hI.facts t ht (hold t hl he))
        · intro t ht
          have he : o.dst ≠ some t := by
            intro e
            exact ht i (by rw [hsl]; exact e)
          rw [hget t he]
          exact hI.out t ht
        · intro i1 j1 s t hij hs ht hsN htN hl1 hl2
          have fresh : ∀ j u, j ≠ i → slotAt ops j = some u → u ∈ N → (l.setIfInBounds i true).getD j true = true → ∃ g, a.tmps.getD u undef = .pointer (some ⟨g, 0, none⟩) ∧ g < w.heap.size := by
            intro j u hj hu huN hlj
            rw [hlst j hj] at hlj
            have hjk : j < k := by
              rcases Nat.lt_or_ge j k with h | h
              · exact h
              · have := hI.rest j h (slot_lt hu)
                rw [hlj] at this
                cases this
            obtain ⟨o', ho'⟩ : ∃ o', ops[j]? = some o' := ⟨_, Array.getElem?_eq_getElem (slot_lt hu)⟩
            refine hN u huN w _ (hI.facts u ⟨j, o', ho', hjk, .inr (by unfold slotAt at hu; rw [ho'] at hu; exact hu)⟩ fun j' hj' => ?_)
            rw [huniq j' j u hj' hu]
            exact hlj
          have hnew : ∀ u, slotAt ops i = some u → u ∈ N → (a.put o.dst v).tmps.getD u undef = .pointer (some ⟨w.heap.size, 0, none⟩) := by
            intro u hu huN
            rw [hsl] at hu
            rw [hgot u hu]
            exact (hd u hu).2 huN
          have hkeep : ∀ j u, j ≠ i → slotAt ops j = some u → (a.put o.dst v).tmps.getD u undef = a.tmps.getD u undef := by
            intro j u hj hu
            refine hget u fun e => ?_
            exact hj (huniq j i u hu (by rw [hsl]; exact e))
          by_cases h1 : i1 = i
          · subst h1
            have h2 : j1 ≠ i1 := fun e => hij e.symm
            obtain ⟨g, hg, hglt⟩ := fresh j1 t h2 ht htN hl2
            rw [hnew s hs hsN, hkeep j1 t h2 ht, hg]
            intro e
            simp only [Value.pointer.injEq, Option.some.injEq, Addr.mk.injEq, and_true] at e
            omega
          · by_cases h2 : j1 = i
            · subst h2
              obtain ⟨g, hg, hglt⟩ := fresh i1 s h1 hs hsN hl1
              rw [hnew t ht htN, hkeep i1 s h1 hs, hg]
              intro e
              simp only [Value.pointer.injEq, Option.some.injEq, Addr.mk.injEq, and_true] at e
              omega
            · rw [hkeep i1 s h1 hs, hkeep j1 t h2 ht]
              rw [hlst i1 h1] at hl1
              rw [hlst j1 h2] at hl2
              exact hI.apart i1 j1 s t hij hs ht hsN htN hl1 hl2
      unfold wpOp
      rw [ho]
      simp only
      rw [hw]
      by_cases hwant : flowWanted (slotAt ops) o (fun t => a.tmps.getD t undef) = true
      · rw [if_pos hwant]
        left
        refine Oper.wp_mono ?_ (hst.1 hwant)
        rintro a' w' ⟨v, rfl, hb, hd⟩
        exact enter _ _ _ (next v w' hb hd)
      · rw [if_neg hwant]
        refine enter _ _ _ (next undef w (Below.refl _ _) fun d hd => ?_)
        have := hst.2 (by simpa using hwant) d hd
        exact ⟨this.1, fun hm => absurd hm this.2⟩
  · intro l a w hr hI
    rcases hI with ⟨m, hkm, hmn, hls, hlm, hrun⟩ | ⟨hI, j0, hj0, hl0⟩
    · have hm' : m = ops.size := by
        rcases Nat.lt_or_ge m ops.size with h | h
        · exfalso
          refine hmin hls ⟨m, h, ?_⟩ hr
          have := hlm m h
          cases hb : l.getD m true
          · rfl
          · have := this.1 hb
            omega
        · omega
      subst hm'
      simpa [runFrom] using hrun
    · exact absurd hr (hmin hI.lsize ⟨j0, by omega, hl0⟩)

end Go.Proofs.YtafhepbplffmeaaDoor

/-
  New variables of type api.Rat in a region that draws its order: 'f, g := a(x), b(y)'.
-/
namespace Go.Proofs.YtafhepbplffmeaaDoor
open Go.RowKit Num

theorem RatA.other {w w' : World} {v : Value} {k : Nat} {q : Rat} {B g t : Nat} {xs : List Value} (h : RatA w v k q) (hb : BoxV w B g t xs) (hx : NoLimb xs) (hg : w.grownBy w' (some g)) : RatA w' v k q := by
  obtain ⟨neg, an, cn, ad, cd, l1, l2, e, h1, h2, r⟩ := h
  exact ⟨neg, an, cn, ad, cd, l1, l2, e, h1.otherBox hb hx hg, h2.otherBox hb hx hg, r⟩

/-- What is known of a slot stays when another variable is written. -/
theorem Kd.kept {κ : Kd} {w w' : World} {v : Value} {B g t : Nat} {xs : List Value} (h : κ.holds w v) (hb : BoxV w B g t xs) (hx : NoLimb xs) (hg : w.grownBy w' (some g)) (hne : v ≠ .pointer (some ⟨g, 0, none⟩)) : κ.holds w' v := by
  have cell : ∀ g' j x, g' ≠ g → w.cell? ⟨g', j, none⟩ = some x → w'.cell? ⟨g', j, none⟩ = some x := fun g' j x hn hc => hg.cell hc (by simpa using hn)
  cases κ with
  | box k q =>
    obtain ⟨g', x0, x1, x2, rfl, c0, c1, c2, hr, hs⟩ := h
    have hn : g' ≠ g := fun e => hne (by rw [e])
    exact ⟨g', x0, x1, x2, rfl, cell _ _ _ hn c0, cell _ _ _ hn c1, cell _ _ _ hn c2, hr.other hb hx hg, hs⟩
  | boxC k q =>
    obtain ⟨g', x0, x1, x2, rfl, c0, c1, c2, hr, hs⟩ := h
    have hn : g' ≠ g := fun e => hne (by rw [e])
    exact ⟨g', x0, x1, x2, rfl, cell _ _ _ hn c0, cell _ _ _ hn c1, cell _ _ _ hn c2, hr.other hb hx hg, hs⟩
  | rat k q => exact ⟨h.1.other hb hx hg, h.2⟩
  | ratC k q => exact ⟨h.1.other hb hx hg, h.2⟩
  | val u => exact h
  | new B' =>
    obtain ⟨g', rfl, hbx⟩ := h
    have hn : g' ≠ g := fun e => hne (by rw [e])
    exact ⟨g', rfl, hbx.kept hg (by simpa using hn)⟩
  | any => trivial

theorem ratC_ne {k : Nat} {q : Rat} {w : World} {v : Value} {p : Option Addr} (h : (Kd.ratC k q).holds w v) : v ≠ .pointer p := by
  obtain ⟨⟨_, _, _, _, _, _, rfl, _⟩, _⟩ := h
  simp

theorem run_store24 (a : Act) (d : Option Tmp) (ty : TypeId) (pos : String) (es : Array Edge) (w : World) (t u : Tmp) (B g : Nat) (b : Bool) (p q : Option Addr) (n c m e : Nat) (x' y' z' : Value)
    (ht : a.tmps.getD t undef = .pointer (some ⟨g, 0, none⟩)) (hu : a.tmps.getD u undef = .agg #[.bool b, .slice p n c, .slice q m e]) (hb : BoxV w B g 24 [x', y', z']) :
    Sem.run Tryd.prog (execOp a.eval ⟨d, .store 24 (.tmp t) (.tmp u), ty, pos, es, none⟩) w = .ok .skip (((w.setCell ⟨g, 0, none⟩ (.bool b)).setCell ⟨g, 1, none⟩ (.slice p n c)).setCell ⟨g, 2, none⟩ (.slice q m e)) := by
  obtain ⟨⟨h0, h1, h2⟩, f0, f1, f2⟩ := hb.three
  go_simp

/-- A value is stored into its new variable. -/
theorem store_one {ops : Array Oper} {Q : Exit → Act → World → Prop} {K : Act → World → Prop} {m t u k B : Nat} {q : Rat} {a : Act} {w : World} {ty : TypeId} {pos : String} {es : Array Edge}
    (ho : ops[m]? = some ⟨none, .store 24 (.tmp t) (.tmp u), ty, pos, es, none⟩) (ht : (Kd.new B).holds w (a.tmps.getD t undef)) (hu : (Kd.ratC k q).holds w (a.tmps.getD u undef))
    (h : ∀ w', (∀ κ v, Kd.holds κ w v → v ≠ a.tmps.getD t undef → Kd.holds κ w' v) → (Kd.boxC k q).holds w' (a.tmps.getD t undef) → (∀ W0, Below B W0 w → Below B W0 w') → K a w') : wpOp Tryd.prog ops Q m K a w := by
  unfold wpOp
  rw [ho]
  simp only [Region.wanted, if_true]
  left
  obtain ⟨g, e, hb⟩ := ht
  obtain ⟨⟨an, ln, cn, ad, ld, cd, hv, hn, hd⟩, hs⟩ := hu
  unfold Oper.wp
  rw [run_store24 a none ty pos es w t u B g _ an ad ln cn ld cd _ _ _ e hv hb, Oper.upon_skip]
  have hg := grown_set3 w g (.bool (decide (q.num < 0))) (.slice an ln cn) (.slice ad ld cd)
  refine h _ (fun κ v hk hne => Kd.kept hk hb noLimb_nil3 hg (by rw [← e]; exact hne)) ?_ (fun W0 hW => below_set3 hW hb.block.1 _ _ _)
  obtain ⟨⟨c0, c1, c2⟩, _⟩ := (hb.store3 (.bool (decide (q.num < 0))) (.slice an ln cn) (.slice ad ld cd)).three
  exact ⟨g, _, _, _, e, c0, c1, c2, RatC.other (⟨an, ln, cn, ad, ld, cd, rfl, hn, hd⟩ : RatC w _ q) hb noLimb_nil3 hg, hs⟩

theorem run_alloc24 (a : Act) (d : Option Tmp) (ty : TypeId) (pos : String) (es : Array Edge) (w : World) :
    Sem.run Tryd.prog (execOp a.eval ⟨d, .alloc 24, ty, pos, es, none⟩) w = .ok (.value (.pointer (some ⟨w.heap.size, 0, none⟩))) (w.alloc (.cells #[.bool false, .slice none 0 0, .slice none 0 0] 24)) := by
  go_simp

section
variable {κ : Tmp → Kd} {G : Nat → Option Tmp} {N : List Tmp} {B : Nat} {d : Tmp} {ty : TypeId} {pos : String} {es : Array Edge}
theorem fl_new (hd : κ d = .new B) : FlowStepN Tryd.prog (Fk κ) G N B ⟨some d, .alloc 24, ty, pos, es, none⟩ := by
  intro a w Q hB _
  refine ⟨fun _ => ?_, fun h => by simp [flowWanted] at h⟩
  unfold Oper.wp
  rw [run_alloc24, Oper.upon_value]
  refine ⟨_, rfl, below_alloc1 _ _, fun d' hd' => ?_⟩
  cases hd'
  refine ⟨?_, fun _ => rfl⟩
  unfold Fk
  rw [hd]
  exact ⟨_, rfl, BoxV.new w B 24 hB [.bool false, .slice none 0 0, .slice none 0 0]⟩

theorem fl_fromInt {n : Int} {q : Rat} {g : Option (Nat × Bool)} (hg : GuardYes (Fk κ) G g) (hq : quo n 1 = q) (hd : κ d = .ratC 1 q) (h1 : -9223372036854775808 ≤ n) (h2 : n ≤ 9223372036854775807) (hs : Sz q 1) :
    FlowStep Tryd.prog (Fk κ) G ⟨some d, .call ⟨.value (.func 15), #[.const (.int .i64 n)], #[2]⟩, ty, pos, es, g⟩ := by
  refine step_yes hg fun a w Q _ => ?_
  unfold Oper.wp
  have hr : Sem.run Tryd.prog (execOp a.eval ⟨some d, .call ⟨.value (.func 15), #[.const (.int .i64 n)], #[2]⟩, ty, pos, es, g⟩) w = .ok (.enter 15 #[.int .i64 n]) w := by go_simp
  rw [hr, Oper.upon_enter]
  refine (fromInt_any n w h1 h2).mono ?_
  rintro e w' ⟨v, rfl, hv, hb⟩
  rw [hq] at hv
  exact ⟨v, rfl, hb, fun d' hd' => by cases hd'; unfold Fk; rw [hd]; exact ⟨hv, hs⟩⟩
end

end Go.Proofs.YtafhepbplffmeaaDoor

/-
  Comparisons of whole numbers in a region, and the order of rational numbers by -1, 0, 1.
-/
namespace Go.Proofs.YtafhepbplffmeaaDoor
open Go.RowKit Num

section
variable {κ : Tmp → Kd} {G : Nat → Option Tmp} {d t u : Tmp} {ty : TypeId} {pos : String} {es : Array Edge} {g : Option (Nat × Bool)} {n m : Int} {b : Bool}
theorem fl_leq (hg : GuardYes (Fk κ) G g) (ht : κ t = .val (.int .i64 n)) (hd : κ d = .val (.bool b)) (hb : decide (n ≤ m) = b) : FlowStep Tryd.prog (Fk κ) G ⟨some d, .binOp .leq 3 (.tmp t) (.const (.int .i64 m)) 3, ty, pos, es, g⟩ :=
  fl_un hg (by simp [Op.operands]) ht hd fun a w h => by subst hb; go_simp
theorem fl_lss (hg : GuardYes (Fk κ) G g) (ht : κ t = .val (.int .i64 n)) (hd : κ d = .val (.bool b)) (hb : decide (n < m) = b) : FlowStep Tryd.prog (Fk κ) G ⟨some d, .binOp .lss 3 (.tmp t) (.const (.int .i64 m)) 3, ty, pos, es, g⟩ :=
  fl_un hg (by simp [Op.operands]) ht hd fun a w h => by subst hb; go_simp
theorem fl_geq (hg : GuardYes (Fk κ) G g) (ht : κ t = .val (.int .i64 n)) (hd : κ d = .val (.bool b)) (hb : decide (m ≤ n) = b) : FlowStep Tryd.prog (Fk κ) G ⟨some d, .binOp .geq 3 (.tmp t) (.const (.int .i64 m)) 3, ty, pos, es, g⟩ :=
  fl_un hg (by simp [Op.operands]) ht hd fun a w h => by subst hb; go_simp
theorem fl_gtr (hg : GuardYes (Fk κ) G g) (ht : κ t = .val (.int .i64 n)) (hd : κ d = .val (.bool b)) (hb : decide (m < n) = b) : FlowStep Tryd.prog (Fk κ) G ⟨some d, .binOp .gtr 3 (.tmp t) (.const (.int .i64 m)) 3, ty, pos, es, g⟩ :=
  fl_un hg (by simp [Op.operands]) ht hd fun a w h => by subst hb; go_simp
theorem fl_eql (hg : GuardYes (Fk κ) G g) (ht : κ t = .val (.int .i64 n)) (hd : κ d = .val (.bool b)) (hb : (n == m) = b) : FlowStep Tryd.prog (Fk κ) G ⟨some d, .binOp .eql 3 (.tmp t) (.const (.int .i64 m)) 3, ty, pos, es, g⟩ :=
  fl_un hg (by simp [Op.operands]) ht hd fun a w h => by subst hb; go_simp
theorem fl_neq (hg : GuardYes (Fk κ) G g) (ht : κ t = .val (.int .i64 n)) (hd : κ d = .val (.bool b)) (hb : (n != m) = b) : FlowStep Tryd.prog (Fk κ) G ⟨some d, .binOp .neq 3 (.tmp t) (.const (.int .i64 m)) 3, ty, pos, es, g⟩ :=
  fl_un hg (by simp [Op.operands]) ht hd fun a w h => by subst hb; go_simp
theorem fl_eql2 (hg : GuardYes (Fk κ) G g) (ht : κ t = .val (.int .i64 n)) (hu : κ u = .val (.int .i64 m)) (hd : κ d = .val (.bool b)) (hb : (n == m) = b) : FlowStep Tryd.prog (Fk κ) G ⟨some d, .binOp .eql 3 (.tmp t) (.tmp u) 3, ty, pos, es, g⟩ :=
  fl_bi hg (by simp [Op.operands]) (by simp [Op.operands]) ht hu hd fun a w h h' => by subst hb; go_simp
theorem fl_neq2 (hg : GuardYes (Fk κ) G g) (ht : κ t = .val (.int .i64 n)) (hu : κ u = .val (.int .i64 m)) (hd : κ d = .val (.bool b)) (hb : (n != m) = b) : FlowStep Tryd.prog (Fk κ) G ⟨some d, .binOp .neq 3 (.tmp t) (.tmp u) 3, ty, pos, es, g⟩ :=
  fl_bi hg (by simp [Op.operands]) (by simp [Op.operands]) ht hu hd fun a w h h' => by subst hb; go_simp
theorem fl_bneq2 {x y : Bool} (hg : GuardYes (Fk κ) G g) (ht : κ t = .val (.bool x)) (hu : κ u = .val (.bool y)) (hd : κ d = .val (.bool b)) (hb : (x != y) = b) : FlowStep Tryd.prog (Fk κ) G ⟨some d, .binOp .neq 4 (.tmp t) (.tmp u) 4, ty, pos, es, g⟩ :=
  fl_bi hg (by simp [Op.operands]) (by simp [Op.operands]) ht hu hd fun a w h h' => by subst hb; cases x <;> cases y <;> go_simp
theorem fl_beql2 {x y : Bool} (hg : GuardYes (Fk κ) G g) (ht : κ t = .val (.bool x)) (hu : κ u = .val (.bool y)) (hd : κ d = .val (.bool b)) (hb : (x == y) = b) : FlowStep Tryd.prog (Fk κ) G ⟨some d, .binOp .eql 4 (.tmp t) (.tmp u) 4, ty, pos, es, g⟩ :=
  fl_bi hg (by simp [Op.operands]) (by simp [Op.operands]) ht hu hd fun a w h h' => by subst hb; go_simp
theorem fl_minus (hg : GuardYes (Fk κ) G g) (ht : κ t = .val (.int .i64 n)) (hd : κ d = .val (.int .i64 m)) (hb : IntKind.i64.wrap (-n) = m) : FlowStep Tryd.prog (Fk κ) G ⟨some d, .unOp .neg 3 (.tmp t), ty, pos, es, g⟩ :=
  fl_un hg (by simp [Op.operands]) ht hd fun a w h => by subst hb; go_simp
end

/-! The order. -/
theorem cmp_cases (p q : Rat) : (p < q ∧ cmpQ p q = -1) ∨ (p = q ∧ cmpQ p q = 0) ∨ (q < p ∧ cmpQ p q = 1) := by
  unfold cmpQ
  by_cases h : p < q
  · exact .inl ⟨h, if_pos h⟩
  · by_cases h' : q < p
    · exact .inr (.inr ⟨h', by rw [if_neg h, if_pos h']⟩)
    · exact .inr (.inl ⟨Rat.le_antisymm (Rat.not_lt.1 h') (Rat.not_lt.1 h), by rw [if_neg h, if_neg h']⟩)
theorem lt_asymm' {p q : Rat} (h : p < q) : ¬ q < p := Rat.not_lt.2 (Rat.le_of_lt h)
theorem cmp_le {p q : Rat} : cmpQ p q ≤ 0 ↔ p ≤ q := by
  rcases cmp_cases p q with ⟨h, e⟩ | ⟨h, e⟩ | ⟨h, e⟩ <;> rw [e]
  · exact ⟨fun _ => Rat.le_of_lt h, fun _ => by omega⟩
  · exact ⟨fun _ => h ▸ Rat.le_refl, fun _ => by omega⟩
  · exact ⟨fun h' => by omega, fun h' => absurd h (Rat.not_lt.2 h')⟩
theorem cmp_gt {p q : Rat} : 0 < cmpQ p q ↔ q < p := by
  rw [← Rat.not_le, ← cmp_le]; omega
theorem cmp_lt {p q : Rat} : cmpQ p q < 0 ↔ p < q := by
  rcases cmp_cases p q with ⟨h, e⟩ | ⟨h, e⟩ | ⟨h, e⟩ <;> rw [e]
  · exact ⟨fun _ => h, fun _ => by omega⟩
  · exact ⟨fun h' => by omega, fun h' => absurd (h ▸ h') Rat.lt_irrefl⟩
  · exact ⟨fun h' => by omega, fun h' => absurd h (lt_asymm' h')⟩
theorem cmp_ge {p q : Rat} : 0 ≤ cmpQ p q ↔ q ≤ p := by
  rw [← Rat.not_lt, ← cmp_lt]; omega
theorem cmp_eq {p q : Rat} : cmpQ p q = 0 ↔ p = q := by
  rcases cmp_cases p q with ⟨h, e⟩ | ⟨h, e⟩ | ⟨h, e⟩ <;> rw [e]
  · exact ⟨fun h' => by omega, fun h' => absurd (h' ▸ h) Rat.lt_irrefl⟩
  · exact ⟨fun _ => h, fun _ => rfl⟩
  · exact ⟨fun h' => by omega, fun h' => absurd (h' ▸ h) Rat.lt_irrefl⟩
theorem cmp_swap (p q : Rat) : cmpQ q p = - cmpQ p q := by
  rcases cmp_cases p q with ⟨h, e⟩ | ⟨h, e⟩ | ⟨h, e⟩ <;> rw [e]
  · unfold cmpQ; rw [if_neg (lt_asymm' h), if_pos h]; rfl
  · subst h; exact cmpQ_self p
  · unfold cmpQ; rw [if_pos h]
theorem cmp_range (p q : Rat) : -1 ≤ cmpQ p q ∧ cmpQ p q ≤ 1 := by
  rcases cmp_cases p q with ⟨_, e⟩ | ⟨_, e⟩ | ⟨_, e⟩ <;> rw [e] <;> omega
theorem sgn_cmp0 (q : Rat) : sgn q = cmpQ q 0 := by
  have h1 : q < 0 ↔ q.num < 0 := by
    rw [← Rat.not_le, ← Rat.num_nonneg]; omega
  rcases cmp_cases q 0 with ⟨h, e⟩ | ⟨h, e⟩ | ⟨h, e⟩ <;> rw [e] <;> unfold sgn
  · have := h1.1 h
    rw [if_neg (by omega), if_pos this]
  · subst h; rfl
  · have h2 : ¬ q.num < 0 := fun h' => lt_asymm' h (h1.2 h')
    have h3 : ¬ q.num = 0 := fun h' => by
      rw [Rat.num_eq_zero] at h'
      rw [h'] at h
      exact Rat.lt_irrefl h
    rw [if_neg h3, if_neg h2]
theorem lt_congr {a b c d : Rat} (h : a < b ↔ c < d) (h' : b < a ↔ d < c) : cmpQ a b = cmpQ c d := by
  unfold cmpQ
  simp only [h, h']

end Go.Proofs.YtafhepbplffmeaaDoor

/-
  A region in its one order, by what is known of each slot. Of any program.
-/
namespace Go.Proofs.YtafhepbplffmeaaDoor
open Go.RowKit

theorem flow_start {F : Tmp → World → Value → Prop} {ops : Array Oper} {A : Act} {W W' : World} (hW : Below W.heap.size W W') (L : List Tmp) (hL : flowOuts ops L = true) (h0 : ∀ t ∈ L, F t W (A.tmps.getD t undef)) (hdraw : ∀ t v, F t W v → F t W' v) :
    FlowI F ops A W (Array.replicate ops.size false) A W' := by
  refine ⟨hW, rfl, rfl, by simp, fun t ⟨i, o, hi, hto⟩ hl => ?_, fun _ _ => rfl⟩
  have hno : ∀ j, slotAt ops j ≠ some t := by
    intro j hj
    have hlt : j < ops.size := by
      rcases Nat.lt_or_ge j ops.size with h | h
      · exact h
      · unfold slotAt at hj
        rw [Array.getElem?_eq_none h] at hj
        cases hj
    have := hl j hj
    simp [Array.getD_eq_getD_getElem?, hlt] at this
  rcases hto with hto | hto
  · refine hdraw _ _ (h0 t ?_)
    unfold flowOuts at hL
    rw [List.all_eq_true] at hL
    have hlt : i < ops.size := by
      rcases Nat.lt_or_ge i ops.size with h | h
      · exact h
      · rw [Array.getElem?_eq_none h] at hi
        cases hi
    have := hL i (by simpa using hlt)
    rw [hi] at this
    simp only [List.all_eq_true, Bool.or_eq_true, List.any_eq_true, List.mem_range, beq_iff_eq] at this
    rcases this t hto with h | ⟨j, _, h⟩
    · simpa using h
    · exact absurd h (hno j)
  · exact absurd (show slotAt ops i = some t by unfold slotAt; rw [hi]; exact hto) (hno i)

set_option maxHeartbeats 1000000 in
theorem flow_step {P : Program} {F : Tmp → World → Value → Prop} {ops : Array Oper} {Q : Exit → Act → World → Prop} {A : Act} {W : World}
    (mono : ∀ t w w' v, Below w.heap.size w w' → F t w v → F t w' v) (hok : flowOk ops = true) (hroom : flowRoom ops A.tmps.size = true) (steps : FlowSteps P F (slotAt ops) ops.toList) :
    ∀ i l a w, i ∈ Region.ready .any ops l → FlowI F ops A W l a w → wpOp P ops Q i (FlowI F ops A W (l.setIfInBounds i true)) a w := by
  unfold flowOk at hok
  rw [List.all_eq_true] at hok
  intro i l a w hi hI
  have hlt := (ready_left hi)
  obtain ⟨o, ho⟩ : ∃ o, ops[i]? = some o := ⟨_, Array.getElem?_eq_getElem hlt.1⟩
  have hoki := hok i (by simpa using hlt.1)
  rw [ho] at hoki
  simp only [Bool.and_eq_true, List.all_eq_true, Bool.or_eq_true, bne_iff_ne, ne_eq, List.mem_range, Array.any_eq_true', beq_iff_eq] at hoki
  obtain ⟨⟨_, huniq⟩, hlooks⟩ := hoki
  have hready : ∀ e ∈ o.after, Region.binds .any e = true → l.getD e.on false = true := by
    have hi' := hi
    simp only [Region.ready, List.mem_filter, List.mem_range, Bool.and_eq_true, ho, Option.map_some, Option.getD_some, Array.all_eq_true', Bool.or_eq_true, Bool.not_eq_true'] at hi'
    intro e he hb
    rcases hi'.2.2 e he with h | h
    · rw [hb] at h; cases h
    · exact h
  have huniqj : ∀ d, o.dst = some d → ∀ j, slotAt ops j = some d → j = i := by
    intro d hd j hj
    rw [hd] at huniq
    simp only [List.all_eq_true, List.mem_range, Bool.or_eq_true, beq_iff_eq, bne_iff_ne, ne_eq] at huniq
    have hlt : j < ops.size := by
      rcases Nat.lt_or_ge j ops.size with h | h
      · exact h
      · unfold slotAt at hj
        rw [Array.getElem?_eq_none h] at hj
        cases hj
    rcases huniq j hlt with h | h
    · exact h
    · exact absurd hj h
  have hfacts : ∀ t, (.tmp t ∈ o.op.operands.toList ∨ ∃ g, o.guard = some g ∧ slotAt ops g.1 = some t) → F t w (a.tmps.getD t undef) := by
    intro t ht
    have hmem := looksAt_mem ht
    refine hI.facts t ⟨i, o, ho, .inl hmem⟩ ?_
    intro j hj
    rcases hlooks t hmem with h | ⟨e, he, hb, hs⟩
    · have hlt : j < ops.size := by
        rcases Nat.lt_or_ge j ops.size with h | h
        · exact h
        · unfold slotAt at hj
          rw [Array.getElem?_eq_none h] at hj
          cases hj
      exact absurd hj (h j hlt)
    · have hl := hready e he hb
      have hje : j = e.on := by
        have hlt : e.on < ops.size := by
          rcases Nat.lt_or_ge e.on ops.size with h | h
          · exact h
          · unfold slotAt at hs
            rw [Array.getElem?_eq_none h] at hs
            cases hs
        have hoke := hok e.on (by simpa using hlt)
        obtain ⟨o', ho'⟩ : ∃ o', ops[e.on]? = some o' := ⟨_, Array.getElem?_eq_getElem hlt⟩
        rw [ho'] at hoke
        have hd' : o'.dst = some t := by unfold slotAt at hs; rw [ho'] at hs; exact hs
        simp only [Bool.and_eq_true, hd', List.all_eq_true, List.mem_range, Bool.or_eq_true, beq_iff_eq, bne_iff_ne, ne_eq] at hoke
        have hltj : j < ops.size := by
          rcases Nat.lt_or_ge j ops.size with h | h
          · exact h
          · unfold slotAt at hj
            rw [Array.getElem?_eq_none h] at hj
            cases hj
        rcases hoke.1.2 j hltj with h | h
        · exact h
        · exact absurd hj h
      rw [hje]
      have hlt : e.on < l.size := by
        rcases Nat.lt_or_ge e.on l.size with h | h
        · exact h
        · simp [Array.getD_eq_getD_getElem?, Array.getElem?_eq_none h] at hl
      simp only [Array.getD_eq_getD_getElem?, Array.getElem?_eq_getElem hlt, Option.getD_some] at hl ⊢
      exact hl
  have hst := flowSteps_get steps (i := i) (o := o) (by simpa using ho) a w Q hfacts
  have hw := flow_wanted (ops := ops) (a := a) (o := o) (by rw [hI.size]; exact hroom)
  have next : ∀ v w', Below w.heap.size w w' → (∀ d, o.dst = some d → F d w' v) → FlowI F ops A W (l.setIfInBounds i true) (a.put o.dst v) w' := by
    intro v w' hb hd
    have hlst : ∀ j, j ≠ i → (l.setIfInBounds i true).getD j true = l.getD j true := by
      intro j hj
      have : i ≠ j := fun e => hj e.symm
      simp [Array.getD_eq_getD_getElem?, this]
    have hdlt : ∀ d, o.dst = some d → d < a.tmps.size := by
      intro d hd'
      rw [hI.size]
      unfold flowRoom at hroom
      rw [List.all_eq_true] at hroom
      have := hroom i (by simpa using hlt.1)
      have hs : slotAt ops i = some d := by unfold slotAt; rw [ho]; exact hd'
      rw [hs] at this
      simpa using this
    refine ⟨below_next hI.B hb, by rw [put_size]; exact hI.size, ?_, by simpa using hI.lsize, ?_, ?_⟩
    · cases o.dst <;> exact hI.defers
    · intro t ht hl
      cases hdst : o.dst with
      | none =>
        show F t w' (a.tmps.getD t undef)
        refine mono t w w' _ hb (hI.facts t ht fun j hj => ?_)
        have hne : j ≠ i := by
          rintro rfl
          unfold slotAt at hj
          rw [ho] at hj
          simp only [Option.bind_some, hdst] at hj
          cases hj
        rw [← hlst j hne]
        exact hl j hj
      | some d =>
        rw [put_getD _ _ _ _ (hdlt d hdst)]
        by_cases h : d = t
        · rw [if_pos h]
          subst h
          exact hd d hdst
        · rw [if_neg h]
          refine mono t w w' _ hb (hI.facts t ht fun j hj => ?_)
          have hne : j ≠ i := by
            rintro rfl
            unfold slotAt at hj
            rw [ho] at hj
            simp only [Option.bind_some, hdst] at hj
            exact h (Option.some.inj hj)
          rw [← hlst j hne]
          exact hl j hj
    · intro t ht
      cases hdst : o.dst with
      | none => exact hI.out t ht
      | some d =>
        rw [put_getD _ _ _ _ (hdlt d hdst), if_neg, hI.out t ht]
        rintro rfl
        exact ht i (by unfold slotAt; rw [ho]; exact hdst)
  unfold wpOp
  rw [ho]
  simp only
  rw [hw]
  by_cases hwant : flowWanted (slotAt ops) o (fun t => a.tmps.getD t undef) = true
  · rw [if_pos hwant]
    left
    refine Oper.wp_mono ?_ (hst.1 hwant)
    rintro a' w' ⟨v, rfl, hb, hd⟩
    exact next v w' hb hd
  · rw [if_neg hwant]
    exact next undef w (Below.refl _ _) (hst.2 (by simpa using hwant))

theorem flow_fin {F : Tmp → World → Value → Prop} {ops : Array Oper} {Q : Exit → Act → World → Prop} {A : Act} {W : World} (hok : flowOk ops = true)
    (fin : ∀ a w, Below W.heap.size W w → a.tmps.size = A.tmps.size → a.defers = A.defers → (∀ i d, slotAt ops i = some d → F d w (a.tmps.getD d undef)) → (∀ t, (∀ j, slotAt ops j ≠ some t) → a.tmps.getD t undef = A.tmps.getD t undef) → Q .normal a w) :
    ∀ l a w, Region.ready .any ops l = [] → FlowI F ops A W l a w → Q .normal a w := by
  unfold flowOk at hok
  rw [List.all_eq_true] at hok
  intro l a w hr hI
  have hall : ∀ j, j < ops.size → l.getD j true = true := by
    intro j
    induction j using Nat.strongRecOn with
    | ind j ih =>
      intro hj
      by_cases hl : l.getD j true = true
      · exact hl
      · exfalso
        have hokj := hok j (by simpa using hj)
        obtain ⟨o, ho⟩ : ∃ o, ops[j]? = some o := ⟨_, Array.getElem?_eq_getElem hj⟩
        rw [ho] at hokj
        simp only [Bool.and_eq_true, Array.all_eq_true', Bool.or_eq_true, Bool.not_eq_true', decide_eq_true_eq] at hokj
        have hmem : j ∈ Region.ready .any ops l := by
          simp only [Region.ready, List.mem_filter, List.mem_range, Bool.and_eq_true, ho, Option.map_some, Option.getD_some, Array.all_eq_true', Bool.or_eq_true, Bool.not_eq_true']
          refine ⟨hj, by simpa using hl, fun e he => ?_⟩
          rcases hokj.1.1 e he with h | h
          · exact .inl h
          · right
            have h1 := ih e.on h (by omega)
            have hlt : e.on < l.size := by rw [hI.lsize]; omega
            simp [Array.getD_eq_getD_getElem?, hlt] at h1 ⊢
            exact h1
        rw [hr] at hmem
        cases hmem
  refine fin a w hI.B hI.size hI.defers (fun i d hd => hI.facts d ?_ ?_) hI.out
  · have hlt : i < ops.size := by
      rcases Nat.lt_or_ge i ops.size with h | h
      · exact h
      · unfold slotAt at hd
        rw [Array.getElem?_eq_none h] at hd
        cases hd
    exact ⟨i, _, Array.getElem?_eq_getElem hlt, .inr (by unfold slotAt at hd; rw [Array.getElem?_eq_getElem hlt] at hd; exact hd)⟩
  · intro j hj
    have hlt : j < ops.size := by
      rcases Nat.lt_or_ge j ops.size with h | h
      · exact h
      · unfold slotAt at hj
        rw [Array.getElem?_eq_none h] at hj
        cases hj
    exact hall j hlt


/-- A region in its one order, by an invariant. -/
theorem region_inv_text {P : Program} {ops : Array Oper} {Q : Exit → Act → World → Prop} {id : Nat} {a : Act} {w : World} (hok : flowOk ops = true)
    (I : Array Bool → Act → World → Prop) (h0 : I (Array.replicate ops.size false) a w)
    (step : ∀ i l a w, i ∈ Region.ready .any ops l → I l a w → wpOp P ops Q i (I (l.setIfInBounds i true)) a w)
    (fin : ∀ l a w, Region.ready .any ops l = [] → I l a w → Q .normal a w) :
    (Code.region id ops false).wp P Q a w := by
  unfold flowOk at hok
  rw [List.all_eq_true] at hok
  refine wp_region ?_
  have key : ∀ (r m : Nat) (l : Array Bool) (a : Act) (w : World), m + r = ops.size → l.size = ops.size → (∀ j, j < ops.size → (l.getD j true = true ↔ j < m)) → I l a w → wpOps P ops Q ((List.range' m r)) a w := by
    intro r
    induction r with
    | zero =>
      intro m l a w hm hls hl hI
      simp only [List.range'_zero, wpOps]
      refine fin l a w ?_ hI
      refine List.eq_nil_iff_forall_not_mem.mpr fun i hi => ?_
      have h := ready_left hi
      have := (hl i h.1).2 (by omega)
      rw [h.2] at this
      cases this
    | succ r ih =>
      intro m l a w hm hls hl hI
      rw [List.range'_succ, wpOps_cons]
      have hlt : m < ops.size := by omega
      obtain ⟨o, ho⟩ : ∃ o, ops[m]? = some o := ⟨_, Array.getElem?_eq_getElem hlt⟩
      have hokm := hok m (by simpa using hlt)
      rw [ho] at hokm
      simp only [Bool.and_eq_true, Array.all_eq_true', Bool.or_eq_true, Bool.not_eq_true', decide_eq_true_eq] at hokm
      have hmem : m ∈ Region.ready .any ops l := by
        simp only [Region.ready, List.mem_filter, List.mem_range, Bool.and_eq_true, ho, Option.map_some, Option.getD_some, Array.all_eq_true', Bool.or_eq_true, Bool.not_eq_true']
        refine ⟨hlt, ?_, fun e he => ?_⟩
        · cases h : l.getD m true
          · rfl
          · have := (hl m hlt).1 h
            omega
        · rcases hokm.1.1 e he with h | h
          · exact .inl h
          · right
            have h1 := (hl e.on (by omega)).2 h
            have hlt' : e.on < l.size := by omega
            simp [Array.getD_eq_getD_getElem?, hlt'] at h1 ⊢
            exact h1
      refine wpOp_mono ?_ (step m l a w hmem hI)
      intro a' w' hI'
      refine ih (m + 1) _ a' w' (by omega) (by simpa using hls) (fun j hj => ?_) hI'
      by_cases hmj : m = j
      · subst hmj
        simp [Array.getD_eq_getD_getElem?, hls, hj]
      · have := hl j hj
        simp only [Array.getD_eq_getD_getElem?, Array.getElem?_setIfInBounds, hmj, if_false] at this ⊢
        rw [this]
        omega
  rw [List.range_eq_range']
  refine key ops.size 0 _ a w (by omega) (by simp) (fun j hj => ?_) h0
  simp [Array.getD_eq_getD_getElem?, hj]

/-- The same where the region has one order. -/
theorem region_flow_text {P : Program} (F : Tmp → World → Value → Prop) {ops : Array Oper} {Q : Exit → Act → World → Prop} {id : Nat} {A : Act} {W : World}
    (mono : ∀ t w w' v, Below w.heap.size w w' → F t w v → F t w' v)
    (n : Nat) (hn : A.tmps.size = n) (hok : flowOk ops = true) (hroom : flowRoom ops n = true)
    (L : List Tmp) (hL : flowOuts ops L = true) (h0 : ∀ t ∈ L, F t W (A.tmps.getD t undef))
    (steps : FlowSteps P F (slotAt ops) ops.toList)
    (fin : ∀ a w, Below W.heap.size W w → a.tmps.size = A.tmps.size → a.defers = A.defers → (∀ i d, slotAt ops i = some d → F d w (a.tmps.getD d undef)) → (∀ t, (∀ j, slotAt ops j ≠ some t) → a.tmps.getD t undef = A.tmps.getD t undef) → Q .normal a w) :
    (Code.region id ops false).wp P Q A W := by
  subst hn
  exact region_inv_text hok (FlowI F ops A W) (flow_start (Below.refl _ _) L hL h0 fun _ _ h => h) (flow_step mono hok hroom steps) (flow_fin hok fin)

end Go.Proofs.YtafhepbplffmeaaDoor
