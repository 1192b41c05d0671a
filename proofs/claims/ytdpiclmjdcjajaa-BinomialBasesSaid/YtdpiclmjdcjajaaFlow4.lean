/-
  A region that draws its order and ends with operations in one forced order (stores): what is known of each slot ahead of them, whatever the order; new blocks are apart from each other. Of any program.
-/
import Derived.Test.YtdpiclmjdcjajaaFlow
namespace Go.Proofs.Ytdpiclmjdcjajaa
open Go.RowKit

theorem slot_lt {ops : Array Oper} {j : Nat} {t : Tmp} (hj : slotAt ops j = some t) : j < ops.size := by
  rcases Nat.lt_or_ge j ops.size with h | h
  · exact h
  · unfold slotAt at hj
    rw [Array.getElem?_eq_none h] at hj
    cases hj

/-- What comes ahead of each operation, by edges and by edges of edges. -/
def aheadOf (ops : Array Oper) : List (List Nat) :=
  ops.toList.foldl (fun M o => M ++ [((o.after.toList.filter (Region.binds .any)).flatMap fun e => e.on :: M.getD e.on []).eraseDups]) []

/-- The list says no more than the edges give. -/
def aheadOk (ops : Array Oper) (M : List (List Nat)) : Bool :=
  (List.range ops.size).all fun i => match ops[i]? with
    | none => true
    | some o => (M.getD i []).all fun j => o.after.any fun e => Region.binds .any e && (e.on == j || (M.getD e.on []).contains j)

/-- From the k-th on each comes behind all ahead of it. -/
def tailOk (ops : Array Oper) (M : List (List Nat)) (k : Nat) : Bool :=
  decide (k ≤ ops.size) && (List.range ops.size).all fun i => decide (i < k) || (List.range i).all fun j => (M.getD i []).contains j

/-- The operations from m on, in their order. -/
def runFrom (P : Program) (ops : Array Oper) (Q : Exit → Act → World → Prop) : Nat → Nat → Act → World → Prop
  | 0, _, a, w => Q .normal a w
  | n + 1, m, a, w => wpOp P ops Q m (runFrom P ops Q n (m + 1)) a w

section
variable (P : Program) (F : Tmp → World → Value → Prop) (G : Nat → Option Tmp) (N : List Tmp) (B : Nat)

/-- What one operation must do; a slot of N gets a new block. -/
def FlowStepN (o : Oper) : Prop :=
  ∀ (a : Act) (w : World) (Q : Exit → Act → World → Prop), B ≤ w.heap.size → (∀ t, (.tmp t ∈ o.op.operands.toList ∨ ∃ g, o.guard = some g ∧ G g.1 = some t) → F t w (a.tmps.getD t undef)) →
    (flowWanted G o (fun t => a.tmps.getD t undef) = true → o.wp P a w (fun a' w' => ∃ v, a' = a.put o.dst v ∧ Below w.heap.size w w' ∧ ∀ d, o.dst = some d → F d w' v ∧ (d ∈ N → v = .pointer (some ⟨w.heap.size, 0, none⟩))) Q) ∧
    (flowWanted G o (fun t => a.tmps.getD t undef) = false → ∀ d, o.dst = some d → F d w undef ∧ d ∉ N)

def FlowStepsN : Nat → List Oper → Prop
  | 0, _ => True
  | _ + 1, [] => True
  | k + 1, o :: r => FlowStepN P F G N B o ∧ FlowStepsN k r
end

theorem flowStepsN_get {P : Program} {F : Tmp → World → Value → Prop} {G : Nat → Option Tmp} {N : List Tmp} {B : Nat} : ∀ {k : Nat} {l : List Oper} (_ : FlowStepsN P F G N B k l) {i : Nat} {o : Oper}, i < k → l[i]? = some o → FlowStepN P F G N B o
  | 0, _, _, _, _, h, _ => by omega
  | k + 1, [], _, i, o, _, h => by simp at h
  | k + 1, x :: r, hs, 0, o, _, h => by
    obtain rfl : x = o := by simpa using h
    exact hs.1
  | k + 1, x :: r, hs, i + 1, o, hk, h => flowStepsN_get (k := k) (l := r) hs.2 (i := i) (o := o) (Nat.lt_of_succ_lt_succ hk) (by simpa using h)

theorem flowN_of {P : Program} {F : Tmp → World → Value → Prop} {G : Nat → Option Tmp} {N : List Tmp} {B : Nat} {o : Oper} (h : FlowStep P F G o) (hN : ∀ d, o.dst = some d → d ∉ N) : FlowStepN P F G N B o := by
  intro a w Q _ hf
  obtain ⟨h1, h2⟩ := h a w Q hf
  refine ⟨fun hw => Oper.wp_mono ?_ (h1 hw), fun hw d hd => ⟨h2 hw d hd, hN d hd⟩⟩
  rintro a' w' ⟨v, e, hb, hd⟩
  exact ⟨v, e, hb, fun d hd' => ⟨hd d hd', fun hm => absurd hm (hN d hd')⟩⟩

/-- What is known while the free part of the region runs. -/
structure FlowJ (F : Tmp → World → Value → Prop) (ops : Array Oper) (k : Nat) (N : List Tmp) (A : Act) (W : World) (l : Array Bool) (a : Act) (w : World) : Prop where
  B : Below W.heap.size W w
  size : a.tmps.size = A.tmps.size
  defers : a.defers = A.defers
  lsize : l.size = ops.size
  closed : ∀ (i : Nat) (o : Oper), ops[i]? = some o → l.getD i true = true → ∀ e ∈ o.after, Region.binds .any e = true → l.getD e.on true = true
  rest : ∀ j, k ≤ j → j < ops.size → l.getD j true = false
  facts : ∀ t, (∃ (i : Nat) (o : Oper), ops[i]? = some o ∧ i < k ∧ (t ∈ o.looksAt ops ∨ o.dst = some t)) → (∀ j, slotAt ops j = some t → l.getD j true = true) → F t w (a.tmps.getD t undef)
  out : ∀ t, (∀ j, slotAt ops j ≠ some t) → a.tmps.getD t undef = A.tmps.getD t undef
  apart : ∀ i j s t, i ≠ j → slotAt ops i = some s → slotAt ops j = some t → s ∈ N → t ∈ N → l.getD i true = true → l.getD j true = true → a.tmps.getD s undef ≠ a.tmps.getD t undef

/-- The k operations at the front have slots that no other writes. -/
def flowOkN (ops : Array Oper) (k : Nat) : Bool :=
  (List.range ops.size).all fun i => match ops[i]? with
    | none => true
    | some o =>
      (o.after.all fun e => !Region.binds .any e || decide (e.on < i)) &&
      (match o.dst with
        | none => true
        | some d => (List.range ops.size).all fun j => j == i || slotAt ops j != some d) &&
      (decide (k ≤ i) || (o.looksAt ops).all fun t => ((List.range ops.size).all fun j => slotAt ops j != some t) || o.after.any fun e => Region.binds .any e && slotAt ops e.on == some t)

def flowOutsN (ops : Array Oper) (k : Nat) (L : List Tmp) : Bool :=
  (List.range k).all fun i => match ops[i]? with
    | none => true
    | some o => (o.looksAt ops).all fun t => L.contains t || (List.range ops.size).any fun j => slotAt ops j == some t

theorem ahead_listed {ops : Array Oper} {l : Array Bool} {M : List (List Nat)} (hM : aheadOk ops M = true) (hback : ∀ (i : Nat) (o : Oper), ops[i]? = some o → ∀ e ∈ o.after, Region.binds .any e = true → e.on < i)
    (hc : ∀ (i : Nat) (o : Oper), ops[i]? = some o → l.getD i true = true → ∀ e ∈ o.after, Region.binds .any e = true → l.getD e.on true = true) :
    ∀ (i : Nat) (o : Oper), ops[i]? = some o → (∀ e ∈ o.after, Region.binds .any e = true → l.getD e.on true = true) → ∀ j ∈ M.getD i [], l.getD j true = true := by
  intro i
  induction i using Nat.strongRecOn with
  | ind i ih =>
    intro o ho he j hj
    have hlt : i < ops.size := by
      rcases Nat.lt_or_ge i ops.size with h | h
      · exact h
      · rw [Array.getElem?_eq_none h] at ho
        cases ho
    unfold aheadOk at hM
    rw [List.all_eq_true] at hM
    have := hM i (by simpa using hlt)
    rw [ho] at this
    simp only [List.all_eq_true, Array.any_eq_true', Bool.and_eq_true, Bool.or_eq_true, beq_iff_eq, List.contains_iff_mem] at this
    obtain ⟨e, hem, hb, h⟩ := this j hj
    have hel := he e hem hb
    rcases h with rfl | h
    · exact hel
    · have hlt' := hback i o ho e hem hb
      obtain ⟨o', ho'⟩ : ∃ o', ops[e.on]? = some o' := ⟨_, Array.getElem?_eq_getElem (by omega)⟩
      exact ih e.on hlt' o' ho' (hc e.on o' ho' hel) j h

theorem getD_le {l : Array Bool} {i : Nat} (h : i < l.size) (b c : Bool) : l.getD i b = l.getD i c := by
  simp [Array.getD_eq_getD_getElem?, h]

set_option maxHeartbeats 2000000 in
theorem region_flow_tail {P : Program} (F : Tmp → World → Value → Prop) {ops : Array Oper} {Q : Exit → Act → World → Prop} {id : Nat} {A : Act} {W : World} (hm : P.follows .mixedOrders = true)
    (mono : ∀ t w w' v, Below w.heap.size w w' → F t w v → F t w' v)
    (n k : Nat) (N : List Tmp) (hn : A.tmps.size = n) (hok : flowOkN ops k = true) (hroom : flowRoom ops n = true) (hM : aheadOk ops (aheadOf ops) = true) (hT : tailOk ops (aheadOf ops) k = true)
    (hN : ∀ t ∈ N, ∀ w v, F t w v → ∃ g, v = .pointer (some ⟨g, 0, none⟩) ∧ g < w.heap.size)
    (L : List Tmp) (hL : flowOutsN ops k L = true) (h0 : ∀ t ∈ L, F t W (A.tmps.getD t undef))
    (hdraw : ∀ t v, F t W v → F t { W with drawn := W.drawn + 1 } v)
    (steps : FlowStepsN P F (slotAt ops) N W.heap.size k ops.toList)
    (fin : ∀ a w, Below W.heap.size W w → a.tmps.size = A.tmps.size → a.defers = A.defers → (∀ i d, i < k → slotAt ops i = some d → F d w (a.tmps.getD d undef)) → (∀ t, (∀ j, slotAt ops j ≠ some t) → a.tmps.getD t undef = A.tmps.getD t undef) →
      (∀ i j s t, i < k → j < k → i ≠ j → slotAt ops i = some s → slotAt ops j = some t → s ∈ N → t ∈ N → a.tmps.getD s undef ≠ a.tmps.getD t undef) → runFrom P ops Q (ops.size - k) k a w) :
    (Code.region id ops true).wp P Q A W := by
  subst hn
  unfold flowOkN at hok
  rw [List.all_eq_true] at hok
  unfold tailOk at hT
  simp only [Bool.and_eq_true, decide_eq_true_eq, List.all_eq_true, List.mem_range, Bool.or_eq_true, List.contains_iff_mem] at hT
  obtain ⟨hkn, hT⟩ := hT
  have hback : ∀ (i : Nat) (o : Oper), ops[i]? = some o → ∀ e ∈ o.after, Region.binds .any e = true → e.on < i := by
    intro i o ho e he hb
    have hlt : i < ops.size := by
      rcases Nat.lt_or_ge i ops.size with h | h
      · exact h
      · rw [Array.getElem?_eq_none h] at ho
        cases ho
    have := hok i (by simpa using hlt)
    rw [ho] at this
    simp only [Bool.and_eq_true, Array.all_eq_true', Bool.or_eq_true, Bool.not_eq_true', decide_eq_true_eq] at this
    rcases this.1.1 e he with h | h
    · rw [hb] at h; cases h
    · exact h
  have huniq : ∀ i j d, slotAt ops i = some d → slotAt ops j = some d → i = j := by
    intro i j d hi hj
    have hlt := slot_lt hi
    have hltj := slot_lt hj
    have := hok i (by simpa using hlt)
    obtain ⟨o, ho⟩ : ∃ o, ops[i]? = some o := ⟨_, Array.getElem?_eq_getElem hlt⟩
    rw [ho] at this
    have hd : o.dst = some d := by unfold slotAt at hi; rw [ho] at hi; exact hi
    simp only [Bool.and_eq_true, hd, List.all_eq_true, List.mem_range, Bool.or_eq_true, beq_iff_eq, bne_iff_ne, ne_eq] at this
    rcases this.1.2 j hltj with h | h
    · exact h.symm
    · exact absurd hj h
  have hreadyE : ∀ {l : Array Bool} {i : Nat} {o : Oper}, i ∈ Region.ready .any ops l → ops[i]? = some o → ∀ e ∈ o.after, Region.binds .any e = true → l.getD e.on false = true := by
    intro l i o hi ho e he hb
    simp only [Region.ready, List.mem_filter, List.mem_range, Bool.and_eq_true, ho, Option.map_some, Option.getD_some, Array.all_eq_true', Bool.or_eq_true, Bool.not_eq_true'] at hi
    rcases hi.2.2 e he with h | h
    · rw [hb] at h; cases h
    · exact h
  have hlistE : ∀ {l : Array Bool} {j : Nat}, l.getD j false = true → l.getD j true = true := by
    intro l j h
    have hlt : j < l.size := by
      rcases Nat.lt_or_ge j l.size with h' | h'
      · exact h'
      · simp [Array.getD_eq_getD_getElem?, Array.getElem?_eq_none h'] at h
    rw [getD_le hlt true false]
    exact h
  have hmin : ∀ {l : Array Bool}, l.size = ops.size → (∃ j, j < ops.size ∧ l.getD j true = false) → Region.ready .any ops l ≠ [] := by
    intro l hls hex hr
    have key : ∀ j, j < ops.size → l.getD j true = true := by
      intro j
      induction j using Nat.strongRecOn with
      | ind j ih =>
        intro hj
        by_cases hl : l.getD j true = true
        · exact hl
        · exfalso
          obtain ⟨o, ho⟩ : ∃ o, ops[j]? = some o := ⟨_, Array.getElem?_eq_getElem hj⟩
          have hmem : j ∈ Region.ready .any ops l := by
            simp only [Region.ready, List.mem_filter, List.mem_range, Bool.and_eq_true, ho, Option.map_some, Option.getD_some, Array.all_eq_true', Bool.or_eq_true, Bool.not_eq_true']
            refine ⟨hj, by simpa using hl, fun e he => ?_⟩
            by_cases hb : Region.binds .any e = true
            · right
              have h := hback j o ho e he hb
              rw [getD_le (by omega) false true]
              exact ih e.on h (by omega)
            · left
              simpa using hb
          rw [hr] at hmem
          cases hmem
    obtain ⟨j, hj, hl⟩ := hex
    rw [key j hj] at hl
    cases hl
  let I : Array Bool → Act → World → Prop := fun l a w =>
    (∃ m, k ≤ m ∧ m ≤ ops.size ∧ l.size = ops.size ∧ (∀ j, j < ops.size → (l.getD j true = true ↔ j < m)) ∧ runFrom P ops Q (ops.size - m) m a w) ∨
    (FlowJ F ops k N A W l a w ∧ ∃ j, j < k ∧ l.getD j true = false)
  have enter : ∀ l a w, FlowJ F ops k N A W l a w → I l a w := by
    intro l a w hI
    by_cases hex : ∃ j, j < k ∧ l.getD j true = false
    · exact .inr ⟨hI, hex⟩
    · left
      have hall : ∀ j, j < k → l.getD j true = true := by
        intro j hj
        by_cases h : l.getD j true = true
        · exact h
        · exact absurd ⟨j, hj, by simpa using h⟩ hex
      refine ⟨k, Nat.le_refl _, hkn, hI.lsize, fun j hj => ⟨fun h => ?_, hall j⟩, fin a w hI.B hI.size hI.defers (fun i d hik hd => ?_) hI.out (fun i j s t hi hj hij hs ht hsN htN => ?_)⟩
      · rcases Nat.lt_or_ge j k with h' | h'
        · exact h'
        · have := hI.rest j h' hj
          rw [h] at this
          cases this
      · obtain ⟨o, ho⟩ : ∃ o, ops[i]? = some o := ⟨_, Array.getElem?_eq_getElem (slot_lt hd)⟩
        refine hI.facts d ⟨i, o, ho, hik, .inr (by unfold slotAt at hd; rw [ho] at hd; exact hd)⟩ fun j hj => ?_
        rw [huniq j i d hj hd]
        exact hall i hik
      · exact hI.apart i j s t hij hs ht hsN htN (hall i hi) (hall j hj)
  refine region_inv hm I ?_ ?_ ?_
  · refine enter _ _ _ ⟨(Below.refl _ _).drew, rfl, rfl, by simp, ?_, ?_, ?_, fun _ _ => rfl, ?_⟩
    · intro i o ho hl
      exfalso
      have hlt : i < ops.size := by
        rcases Nat.lt_or_ge i ops.size with h | h
        · exact h
        · rw [Array.getElem?_eq_none h] at ho
          cases ho
      simp [Array.getD_eq_getD_getElem?, hlt] at hl
    · intro j _ hj
      simp [Array.getD_eq_getD_getElem?, hj]
    · rintro t ⟨i, o, hi, hik, hto⟩ hl
      have hno : ∀ j, slotAt ops j ≠ some t := by
        intro j hj
        have hlt := slot_lt hj
        have := hl j hj
        simp [Array.getD_eq_getD_getElem?, hlt] at this
      rcases hto with hto | hto
      · refine hdraw _ _ (h0 t ?_)
        unfold flowOutsN at hL
        rw [List.all_eq_true] at hL
        have := hL i (by simpa using hik)
        rw [hi] at this
        simp only [List.all_eq_true, Bool.or_eq_true, List.any_eq_true, List.mem_range, beq_iff_eq] at this
        rcases this t hto with h | ⟨j, _, h⟩
        · simpa using h
        · exact absurd h (hno j)
      · exact absurd (show slotAt ops i = some t by unfold slotAt; rw [hi]; exact hto) (hno i)
    · intro i j s t _ hs _ _ _ hli
      exfalso
      have hlt := slot_lt hs
      simp [Array.getD_eq_getD_getElem?, hlt] at hli
  · intro i l a w hi hI
    have hlt := ready_left hi
    obtain ⟨o, ho⟩ : ∃ o, ops[i]? = some o := ⟨_, Array.getElem?_eq_getElem hlt.1⟩
    have hE := hreadyE hi ho
    rcases hI with ⟨m, hkm, hmn, hls, hlm, hrun⟩ | ⟨hI, j0, hj0, hl0⟩
    · have him : m ≤ i := by
        rcases Nat.lt_or_ge i m with h | h
        · have := (hlm i hlt.1).2 h
          rw [hlt.2] at this
          cases this
        · exact h
      have hcl : ∀ (i : Nat) (o : Oper), ops[i]? = some o → l.getD i true = true → ∀ e ∈ o.after, Region.binds .any e = true → l.getD e.on true = true := by
        intro i' o' ho' hl' e he hb
        have hb' := hback i' o' ho' e he hb
        have hlt' : i' < ops.size := by
          rcases Nat.lt_or_ge i' ops.size with h | h
          · exact h
          · rw [Array.getElem?_eq_none h] at ho'
            cases ho'
        exact (hlm e.on (by omega)).2 (by have := (hlm i' hlt').1 hl'; omega)
      have hahead := ahead_listed hM hback hcl i o ho (fun e he hb => hlistE (hE e he hb))
      have hmi : i = m := by
        rcases Nat.lt_or_ge m i with h | h
        · rcases hT i hlt.1 with h' | h'
          · omega
          · have := hahead m (h' m (by omega))
            have := (hlm m (by omega)).1 this
            omega
        · omega
      subst hmi
      have hsz : ops.size - i = (ops.size - (i + 1)) + 1 := by omega
      rw [hsz] at hrun
      refine wpOp_mono ?_ hrun
      intro a' w' hr'
      refine .inl ⟨i + 1, by omega, by omega, by simpa using hls, fun j hj => ?_, hr'⟩
      by_cases hji : i = j
      · subst hji
        simp [Array.getD_eq_getD_getElem?, hls, hj]
      · have := hlm j hj
        simp only [Array.getD_eq_getD_getElem?, Array.getElem?_setIfInBounds, hji, if_false] at this ⊢
        rw [this]
        omega
    · have hahead := ahead_listed hM hback hI.closed i o ho (fun e he hb => hlistE (hE e he hb))
      have hik : i < k := by
        rcases Nat.lt_or_ge i k with h | h
        · exact h
        · exfalso
          rcases hT i hlt.1 with h' | h'
          · omega
          · have := hahead j0 (h' j0 (by omega))
            rw [hl0] at this
            cases this
      have hoki := hok i (by simpa using hlt.1)
      rw [ho] at hoki
      simp only [Bool.and_eq_true, List.all_eq_true, Bool.or_eq_true, bne_iff_ne, ne_eq, List.mem_range, Array.any_eq_true', beq_iff_eq, decide_eq_true_eq] at hoki
      obtain ⟨_, hlooks⟩ := hoki
      have hlooks' := hlooks.resolve_left (by omega)
      have hfacts : ∀ t, (.tmp t ∈ o.op.operands.toList ∨ ∃ g, o.guard = some g ∧ slotAt ops g.1 = some t) → F t w (a.tmps.getD t undef) := by
        intro t ht
        have hmem := looksAt_mem ht
        refine hI.facts t ⟨i, o, ho, hik, .inl hmem⟩ ?_
        intro j hj
        rcases hlooks' t hmem with h | ⟨e, he, hb, hs⟩
        · exact absurd hj (h j (slot_lt hj))
        · rw [huniq j e.on t hj hs]
          exact hlistE (hE e he hb)
      have hst := flowStepsN_get steps (i := i) (o := o) hik (by simpa using ho) a w Q hI.B.size hfacts
      have hw := flow_wanted (ops := ops) (a := a) (o := o) (by rw [hI.size]; exact hroom)
      have next : ∀ v w', Below w.heap.size w w' → (∀ d, o.dst = some d → F d w' v ∧ (d ∈ N → v = .pointer (some ⟨w.heap.size, 0, none⟩))) → FlowJ F ops k N A W (l.setIfInBounds i true) (a.put o.dst v) w' := by
        intro v w' hb hd
        have hlst : ∀ j, j ≠ i → (l.setIfInBounds i true).getD j true = l.getD j true := by
          intro j hj
          have : i ≠ j := fun e => hj e.symm
          simp [Array.getD_eq_getD_getElem?, this]
        have hdlt : ∀ d, o.dst = some d → d < a.tmps.size := by
          intro d hd'
          rw [hI.size]
          unfold flowRoom at hroom
          rw [List.all_eq_true] at hroom
          have := hroom i (by simpa using hlt.1)
          have hs : slotAt ops i = some d := by unfold slotAt; rw [ho]; exact hd'
          rw [hs] at this
          simpa using this
        have hsl : slotAt ops i = o.dst := by unfold slotAt; rw [ho]; rfl
        have hold : ∀ t, (∀ j, slotAt ops j = some t → (l.setIfInBounds i true).getD j true = true) → o.dst ≠ some t → ∀ j, slotAt ops j = some t → l.getD j true = true := by
          intro t hl hne j hj
          have hne' : j ≠ i := by
            rintro rfl
            rw [hsl] at hj
            exact hne hj
          rw [← hlst j hne']
          exact hl j hj
        have hget : ∀ t, o.dst ≠ some t → (a.put o.dst v).tmps.getD t undef = a.tmps.getD t undef := by
          intro t hne
          cases hdst : o.dst with
          | none => rfl
          | some d =>
            rw [put_getD _ _ _ _ (hdlt d hdst), if_neg]
            rintro rfl
            exact hne hdst
        have hgot : ∀ t, o.dst = some t → (a.put o.dst v).tmps.getD t undef = v := by
          intro t he
          rw [he, put_getD _ _ _ _ (hdlt t he), if_pos rfl]
        refine ⟨below_next hI.B hb, by rw [put_size]; exact hI.size, ?_, by simpa using hI.lsize, ?_, ?_, ?_, ?_, ?_⟩
        · cases o.dst <;> exact hI.defers
        · intro i' o' ho' hl' e he hbd
          by_cases hii : i' = i
          · subst hii
            have e1 : o' = o := by rw [ho] at ho'; exact (Option.some.inj ho').symm
            subst e1
            by_cases hei : e.on = i'
            · have := hback i' o' ho' e he hbd
              omega
            · rw [hlst _ hei]
              exact hlistE (hE e he hbd)
          · rw [hlst i' hii] at hl'
            have := hI.closed i' o' ho' hl' e he hbd
            by_cases hei : e.on = i
            · rw [hei]
              have hls : i < l.size := by rw [hI.lsize]; exact hlt.1
              simp [Array.getD_eq_getD_getElem?, hls]
            · rw [hlst _ hei]
              exact this
        · intro j hj hjn
          rw [hlst j (by omega)]
          exact hI.rest j hj hjn
        · intro t ht hl
          by_cases he : o.dst = some t
          · rw [hgot t he]
            exact (hd t he).1
          · rw [hget t he]
            exact mono t w w' _ hb (hI.facts t ht (hold t hl he))
        · intro t ht
          have he : o.dst ≠ some t := by
            intro e
            exact ht i (by rw [hsl]; exact e)
          rw [hget t he]
          exact hI.out t ht
        · intro i1 j1 s t hij hs ht hsN htN hl1 hl2
          have fresh : ∀ j u, j ≠ i → slotAt ops j = some u → u ∈ N → (l.setIfInBounds i true).getD j true = true → ∃ g, a.tmps.getD u undef = .pointer (some ⟨g, 0, none⟩) ∧ g < w.heap.size := by
            intro j u hj hu huN hlj
            rw [hlst j hj] at hlj
            have hjk : j < k := by
              rcases Nat.lt_or_ge j k with h | h
              · exact h
              · have := hI.rest j h (slot_lt hu)
                rw [hlj] at this
                cases this
            obtain ⟨o', ho'⟩ : ∃ o', ops[j]? = some o' := ⟨_, Array.getElem?_eq_getElem (slot_lt hu)⟩
            refine hN u huN w _ (hI.facts u ⟨j, o', ho', hjk, .inr (by unfold slotAt at hu; rw [ho'] at hu; exact hu)⟩ fun j' hj' => ?_)
            rw [huniq j' j u hj' hu]
            exact hlj
          have hnew : ∀ u, slotAt ops i = some u → u ∈ N → (a.put o.dst v).tmps.getD u undef = .pointer (some ⟨w.heap.size, 0, none⟩) := by
            intro u hu huN
            rw [hsl] at hu
            rw [hgot u hu]
            exact (hd u hu).2 huN
          have hkeep : ∀ j u, j ≠ i → slotAt ops j = some u → (a.put o.dst v).tmps.getD u undef = a.tmps.getD u undef := by
            intro j u hj hu
            refine hget u fun e => ?_
            exact hj (huniq j i u hu (by rw [hsl]; exact e))
          by_cases h1 : i1 = i
          · subst h1
            have h2 : j1 ≠ i1 := fun e => hij e.symm
            obtain ⟨g, hg, hglt⟩ := fresh j1 t h2 ht htN hl2
            rw [hnew s hs hsN, hkeep j1 t h2 ht, hg]
            intro e
            simp only [Value.pointer.injEq, Option.some.injEq, Addr.mk.injEq, and_true] at e
            omega
          · by_cases h2 : j1 = i
            · subst h2
              obtain ⟨g, hg, hglt⟩ := fresh i1 s h1 hs hsN hl1
              rw [hnew t ht htN, hkeep i1 s h1 hs, hg]
              intro e
              simp only [Value.pointer.injEq, Option.some.injEq, Addr.mk.injEq, and_true] at e
              omega
            · rw [hkeep i1 s h1 hs, hkeep j1 t h2 ht]
              rw [hlst i1 h1] at hl1
              rw [hlst j1 h2] at hl2
              exact hI.apart i1 j1 s t hij hs ht hsN htN hl1 hl2
      unfold wpOp
      rw [ho]
      simp only
      rw [hw]
      by_cases hwant : flowWanted (slotAt ops) o (fun t => a.tmps.getD t undef) = true
      · rw [if_pos hwant]
        left
        refine Oper.wp_mono ?_ (hst.1 hwant)
        rintro a' w' ⟨v, rfl, hb, hd⟩
        exact enter _ _ _ (next v w' hb hd)
      · rw [if_neg hwant]
        refine enter _ _ _ (next undef w (Below.refl _ _) fun d hd => ?_)
        have := hst.2 (by simpa using hwant) d hd
        exact ⟨this.1, fun hm => absurd hm this.2⟩
  · intro l a w hr hI
    rcases hI with ⟨m, hkm, hmn, hls, hlm, hrun⟩ | ⟨hI, j0, hj0, hl0⟩
    · have hm' : m = ops.size := by
        rcases Nat.lt_or_ge m ops.size with h | h
        · exfalso
          refine hmin hls ⟨m, h, ?_⟩ hr
          have := hlm m h
          cases hb : l.getD m true
          · rfl
          · have := this.1 hb
            omega
        · omega
      subst hm'
      simpa [runFrom] using hrun
    · exact absurd hr (hmin hI.lsize ⟨j0, by omega, hl0⟩)

end Go.Proofs.Ytdpiclmjdcjajaa
