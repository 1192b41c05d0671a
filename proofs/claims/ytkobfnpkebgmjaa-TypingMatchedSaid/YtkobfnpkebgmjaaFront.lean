/-
  A region that draws its order and ends with operations in one forced order: what is known of each slot ahead of these, whatever the order, where the world goes on by a relation of one's own. Of any program. No condition.
-/
import Derived.Orders
import Derived.Below
import Derived.WalkKit
import Derived.ProofKit
namespace Go.Proofs.Ytkobfnpkebgmjaa
open Go Go.RowKit

/-- How many operations are still to do. -/
def left (ops : Array Oper) (l : Array Bool) : Nat := ((List.range ops.size).filter fun i => !l.getD i true).length

theorem ready_left {md : Region.Mode} {ops : Array Oper} {l : Array Bool} {i : Nat} (h : i ∈ Region.ready md ops l) : i < ops.size ∧ l.getD i true = false := by
  simp only [Region.ready, List.mem_filter, List.mem_range, Bool.and_eq_true, Bool.not_eq_true'] at h
  exact ⟨h.1, h.2.1⟩

theorem left_set {ops : Array Oper} {l : Array Bool} {i : Nat} (h : i < ops.size) (hl : l.getD i true = false) : left ops (l.setIfInBounds i true) < left ops l := by
  have hi : i < l.size := by
    rcases Nat.lt_or_ge i l.size with h' | h'
    · exact h'
    · simp [Array.getD, Nat.not_lt.mpr h'] at hl
  have he : ((List.range ops.size).filter fun j => !(l.setIfInBounds i true).getD j true) = ((List.range ops.size).filter fun j => !l.getD j true).filter (fun j => j != i) := by
    rw [List.filter_filter]
    refine List.filter_congr ?_
    intro j _
    by_cases hj : j = i
    · subst hj
      simp [Array.getD_eq_getD_getElem?, hi]
    · have : ¬ i = j := fun e => hj e.symm
      simp [Array.getD_eq_getD_getElem?, this, hj]
  unfold left
  rw [he]
  refine List.length_filter_lt_length_iff_exists.mpr ⟨i, ?_, by simp⟩
  simp only [List.mem_filter, List.mem_range, hl]
  exact ⟨h, rfl⟩

theorem wpAny_inv {P : Program} {ops : Array Oper} {Q : Exit → Act → World → Prop} {md : Region.Mode} (I : Array Bool → Act → World → Prop)
    (step : ∀ i l a w, i ∈ Region.ready md ops l → I l a w → wpOp P ops Q i (I (l.setIfInBounds i true)) a w)
    (fin : ∀ l a w, Region.ready md ops l = [] → I l a w → Q .normal a w) :
    ∀ (fuel : Nat) (l : Array Bool) (a : Act) (w : World), left ops l ≤ fuel → I l a w → wpAny P md ops Q fuel l a w := by
  intro fuel
  induction fuel with
  | zero =>
    intro l a w h hI
    have hr : Region.ready md ops l = [] := by
      refine List.eq_nil_iff_forall_not_mem.mpr ?_
      intro i hi
      have := ready_left hi
      have := left_set this.1 this.2
      omega
    exact ⟨hr, fin l a w hr hI⟩
  | succ fuel ih =>
    intro l a w h hI
    refine ⟨fun hr => fin l a w hr hI, ?_⟩
    intro i hi
    have hl := ready_left hi
    have := left_set hl.1 hl.2
    exact wpOp_mono (fun a w h' => ih _ a w (by omega) h') (step i l a w hi hI)

theorem left_start (ops : Array Oper) (l : Array Bool) : left ops l ≤ ops.size := by
  unfold left
  refine Nat.le_trans (List.length_filter_le _ _) ?_
  simp

/-- A region that draws its order, by an invariant. -/
theorem region_inv {P : Program} {ops : Array Oper} {Q : Exit → Act → World → Prop} {id : Nat} {a : Act} {w : World} (hm : P.follows .mixedOrders = true)
    (I : Array Bool → Act → World → Prop) (h0 : I (Array.replicate ops.size false) a { w with drawn := w.drawn + 1 })
    (step : ∀ i l a w, i ∈ Region.ready .any ops l → I l a w → wpOp P ops Q i (I (l.setIfInBounds i true)) a w)
    (fin : ∀ l a w, Region.ready .any ops l = [] → I l a w → Q .normal a w) :
    (Code.region id ops true).wp P Q a w :=
  wp_region_any hm (wpAny_inv I step fin _ _ _ _ (left_start _ _) h0)

theorem put_get (A : Act) (d : Tmp) (v : Value) (h : d < A.tmps.size) : (A.put (some d) v).tmps.getD d undef = v := by
  simp [Act.put, Array.getD_eq_getD_getElem?, h]
theorem put_other (A : Act) (d t : Tmp) (v : Value) (h : d ≠ t) : (A.put (some d) v).tmps.getD t undef = A.tmps.getD t undef := by
  simp [Act.put, Array.getD_eq_getD_getElem?, h]
theorem put_twice (A : Act) (d : Tmp) (v v' : Value) : (A.put (some d) v).put (some d) v' = A.put (some d) v' := by
  simp [Act.put]
theorem put_swap (A : Act) (d e : Tmp) (v v' : Value) (h : d ≠ e) : (A.put (some d) v).put (some e) v' = (A.put (some e) v').put (some d) v := by
  simp [Act.put, Array.setIfInBounds_comm v v' h]
theorem put_size (A : Act) (d : Option Tmp) (v : Value) : (A.put d v).tmps.size = A.tmps.size := by
  cases d <;> simp [Act.put]
theorem put_self (A : Act) (d : Tmp) : A.put (some d) (A.tmps.getD d undef) = A := by
  obtain ⟨t, ds⟩ := A
  simp only [Act.put, Act.mk.injEq, and_true]
  refine Array.ext_getElem? fun i => ?_
  rw [Array.getElem?_setIfInBounds]
  by_cases h : d = i
  · subst h
    by_cases hd : d < t.size
    · simp [hd, Array.getD_eq_getD_getElem?]
    · simp [hd]
  · simp [h]

/-- The slot that an operation of the region writes. -/
def slotAt (ops : Array Oper) (j : Nat) : Option Tmp := (ops[j]?).bind (·.dst)

/-- Each slot is written once, and whoever reads it comes behind its writer. -/
def flowOk (ops : Array Oper) : Bool :=
  (List.range ops.size).all fun i => match ops[i]? with
    | none => true
    | some o =>
      (o.after.all fun e => !Region.binds .any e || decide (e.on < i)) &&
      (match o.dst with
        | none => true
        | some d => (List.range ops.size).all fun j => j == i || slotAt ops j != some d) &&
      (o.looksAt ops).all fun t => ((List.range ops.size).all fun j => slotAt ops j != some t) || o.after.any fun e => Region.binds .any e && slotAt ops e.on == some t

/-- The slots of the frame are there. -/
def flowRoom (ops : Array Oper) (n : Nat) : Bool := (List.range ops.size).all fun i => match slotAt ops i with | none => true | some d => decide (d < n)

/-- The slots that are read and not written are these. -/
def flowOuts (ops : Array Oper) (L : List Tmp) : Bool :=
  (List.range ops.size).all fun i => match ops[i]? with
    | none => true
    | some o => (o.looksAt ops).all fun t => L.contains t || (List.range ops.size).any fun j => slotAt ops j == some t

/-- The slot is not written. -/
def flowFree (ops : Array Oper) (t : Tmp) : Bool := (List.range ops.size).all fun j => slotAt ops j != some t

theorem free_of {ops : Array Oper} {t : Tmp} (h : flowFree ops t = true) : ∀ j, slotAt ops j ≠ some t := by
  intro j hj
  have hlt : j < ops.size := by
    rcases Nat.lt_or_ge j ops.size with h | h
    · exact h
    · unfold slotAt at hj
      rw [Array.getElem?_eq_none h] at hj
      cases hj
  unfold flowFree at h
  rw [List.all_eq_true] at h
  have := h j (by simpa using hlt)
  simp [hj] at this

/-- Is the operation wanted? -/
def flowWanted (G : Nat → Option Tmp) (o : Oper) (val : Tmp → Value) : Bool :=
  match o.guard with
  | none => true
  | some (j, want) => match G j with
    | none => false
    | some d => match val d with
      | .bool b => b == want
      | _ => false

theorem put_getD (a : Act) (d : Tmp) (v : Value) (t : Tmp) (hd : d < a.tmps.size) : (a.put (some d) v).tmps.getD t undef = if d = t then v else a.tmps.getD t undef := by
  by_cases h : d = t
  · subst h
    rw [if_pos rfl, put_get _ _ _ hd]
  · rw [if_neg h, put_other _ _ _ _ h]

theorem flow_wanted {ops : Array Oper} {a : Act} {o : Oper} (hroom : flowRoom ops a.tmps.size = true) : Region.wanted o (yielded ops a.tmps) = flowWanted (slotAt ops) o (fun t => a.tmps.getD t undef) := by
  unfold Region.wanted flowWanted
  cases hg : o.guard with
  | none => rfl
  | some g =>
    obtain ⟨j, want⟩ := g
    simp only
    unfold yielded
    have e : ((ops[j]?).bind (·.dst)) = slotAt ops j := rfl
    rw [e]
    cases hs : slotAt ops j with
    | none => simp
    | some d =>
      have hj : j < ops.size := by
        rcases Nat.lt_or_ge j ops.size with h | h
        · exact h
        · unfold slotAt at hs
          rw [Array.getElem?_eq_none h] at hs
          cases hs
      have hd : d < a.tmps.size := by
        unfold flowRoom at hroom
        rw [List.all_eq_true] at hroom
        have := hroom j (by simpa using hj)
        rw [hs] at this
        simpa using this
      simp only [Option.bind_some, Array.getElem?_eq_getElem hd, Array.getD_eq_getD_getElem?, Option.getD_some]
      generalize a.tmps[d] = v
      cases v <;> simp

theorem looksAt_mem {ops : Array Oper} {o : Oper} {t : Tmp} (h : .tmp t ∈ o.op.operands.toList ∨ ∃ g, o.guard = some g ∧ slotAt ops g.1 = some t) : t ∈ o.looksAt ops := by
  unfold Oper.looksAt
  rw [List.mem_append]
  rcases h with h | ⟨g, hg, hs⟩
  · exact .inl (List.mem_filterMap.2 ⟨_, h, rfl⟩)
  · right
    obtain ⟨j, b⟩ := g
    rw [hg]
    simp only
    unfold slotAt at hs
    rw [hs]
    simp

theorem slot_lt {ops : Array Oper} {j : Nat} {t : Tmp} (hj : slotAt ops j = some t) : j < ops.size := by
  rcases Nat.lt_or_ge j ops.size with h | h
  · exact h
  · unfold slotAt at hj
    rw [Array.getElem?_eq_none h] at hj
    cases hj

/-- What comes ahead of each operation, by edges and by edges of edges. -/
def aheadOf (ops : Array Oper) : List (List Nat) :=
  ops.toList.foldl (fun M o => M ++ [((o.after.toList.filter (Region.binds .any)).flatMap fun e => e.on :: M.getD e.on []).eraseDups]) []

/-- The list says no more than the edges give. -/
def aheadOk (ops : Array Oper) (M : List (List Nat)) : Bool :=
  (List.range ops.size).all fun i => match ops[i]? with
    | none => true
    | some o => (M.getD i []).all fun j => o.after.any fun e => Region.binds .any e && (e.on == j || (M.getD e.on []).contains j)

/-- From the k-th on each comes behind all ahead of it. -/
def tailOk (ops : Array Oper) (M : List (List Nat)) (k : Nat) : Bool :=
  decide (k ≤ ops.size) && (List.range ops.size).all fun i => decide (i < k) || (List.range i).all fun j => (M.getD i []).contains j

/-- The operations from m on, in their order. -/
def runFrom (P : Program) (ops : Array Oper) (Q : Exit → Act → World → Prop) : Nat → Nat → Act → World → Prop
  | 0, _, a, w => Q .normal a w
  | n + 1, m, a, w => wpOp P ops Q m (runFrom P ops Q n (m + 1)) a w

theorem runFrom_list {P : Program} {ops : Array Oper} {Q : Exit → Act → World → Prop} : ∀ (n m : Nat), n + m = ops.size → runFrom P ops Q n m = wpList P ops Q (ops.toList.drop m)
  | 0, m, h => by
    funext a w
    rw [List.drop_eq_nil_of_le (by simp; omega)]
    rfl
  | n + 1, m, h => by
    have hm : m < ops.toList.length := by simp; omega
    funext a w
    rw [List.drop_eq_getElem_cons hm, runFrom, runFrom_list n (m + 1) (by omega)]
    have ho : ops[m]? = some ops.toList[m] := by simp
    unfold wpOp
    rw [ho]
    rfl

section
variable (P : Program) (R : World → World → Prop) (W : World) (F : Tmp → World → Value → Prop) (G : Nat → Option Tmp)
/-- What one operation must do. -/
def FrontStep (o : Oper) : Prop :=
  ∀ (a : Act) (w : World) (Q : Exit → Act → World → Prop), R W w → (∀ t, (.tmp t ∈ o.op.operands.toList ∨ ∃ g, o.guard = some g ∧ G g.1 = some t) → F t w (a.tmps.getD t undef)) →
    (flowWanted G o (fun t => a.tmps.getD t undef) = true → o.wp P a w (fun a' w' => ∃ v, a' = a.put o.dst v ∧ R w w' ∧ ∀ d, o.dst = some d → F d w' v) Q) ∧
    (flowWanted G o (fun t => a.tmps.getD t undef) = false → ∀ d, o.dst = some d → F d w undef)

def FrontSteps : Nat → List Oper → Prop
  | 0, _ => True
  | _ + 1, [] => True
  | k + 1, o :: r => FrontStep P R W F G o ∧ FrontSteps k r
end
section
variable (P : Program) (R : World → World → Prop) (W : World) (F : Tmp → Nat → Nat → World → Value → Prop) (G : Nat → Option Tmp)
/-- What one operation must do. -/
def IvlStep (o : Oper) : Prop :=
  ∀ (a : Act) (w : World) (Q : Exit → Act → World → Prop), R W w → (∀ t, (.tmp t ∈ o.op.operands.toList ∨ ∃ g, o.guard = some g ∧ G g.1 = some t) → ∃ lo hi, F t lo hi w (a.tmps.getD t undef)) →
    (flowWanted G o (fun t => a.tmps.getD t undef) = true → o.wp P a w (fun a' w' => ∃ v, a' = a.put o.dst v ∧ R w w' ∧ ∀ d, o.dst = some d → F d w.heap.size w'.heap.size w' v) Q) ∧
    (flowWanted G o (fun t => a.tmps.getD t undef) = false → ∀ d, o.dst = some d → F d w.heap.size w.heap.size w undef)

def IvlSteps : Nat → List Oper → Prop
  | 0, _ => True
  | _ + 1, [] => True
  | k + 1, o :: r => IvlStep P R W F G o ∧ IvlSteps k r
end
theorem ivlSteps_get {P : Program} {R : World → World → Prop} {W : World} {F : Tmp → Nat → Nat → World → Value → Prop} {G : Nat → Option Tmp} : ∀ {k : Nat} {l : List Oper} (_ : IvlSteps P R W F G k l) {i : Nat} {o : Oper}, i < k → l[i]? = some o → IvlStep P R W F G o
  | 0, _, _, _, _, h, _ => by omega
  | k + 1, [], _, i, o, _, h => by simp at h
  | k + 1, x :: r, hs, 0, o, _, h => by
    obtain rfl : x = o := by simpa using h
    exact hs.1
  | k + 1, x :: r, hs, i + 1, o, hk, h => ivlSteps_get (k := k) (l := r) hs.2 (i := i) (o := o) (Nat.lt_of_succ_lt_succ hk) (by simpa using h)

/-- What is known while the free part of the region runs. -/
structure IvlI (R : World → World → Prop) (F : Tmp → Nat → Nat → World → Value → Prop) (ops : Array Oper) (k : Nat) (A : Act) (W : World) (lo hi : Tmp → Nat) (l : Array Bool) (a : Act) (w : World) : Prop where
  R : R W w
  size : a.tmps.size = A.tmps.size
  defers : a.defers = A.defers
  lsize : l.size = ops.size
  closed : ∀ (i : Nat) (o : Oper), ops[i]? = some o → l.getD i true = true → ∀ e ∈ o.after, Region.binds .any e = true → l.getD e.on true = true
  rest : ∀ j, k ≤ j → j < ops.size → l.getD j true = false
  facts : ∀ t, (∃ (i : Nat) (o : Oper), ops[i]? = some o ∧ i < k ∧ (t ∈ o.looksAt ops ∨ o.dst = some t)) → (∀ j, slotAt ops j = some t → l.getD j true = true) → F t (lo t) (hi t) w (a.tmps.getD t undef)
  ivl : ∀ t, W.heap.size ≤ lo t ∧ lo t ≤ hi t ∧ hi t ≤ w.heap.size
  disj : ∀ i j s t, i ≠ j → slotAt ops i = some s → slotAt ops j = some t → l.getD i true = true → l.getD j true = true → hi s ≤ lo t ∨ hi t ≤ lo s
  out : ∀ t, (∀ j, j < k → slotAt ops j ≠ some t) → a.tmps.getD t undef = A.tmps.getD t undef

/-- The k operations at the front have slots that no other writes. -/
def flowOkN (ops : Array Oper) (k : Nat) : Bool :=
  (List.range ops.size).all fun i => match ops[i]? with
    | none => true
    | some o =>
      (o.after.all fun e => !Region.binds .any e || decide (e.on < i)) &&
      (match o.dst with
        | none => true
        | some d => (List.range ops.size).all fun j => j == i || slotAt ops j != some d) &&
      (decide (k ≤ i) || (o.looksAt ops).all fun t => ((List.range ops.size).all fun j => slotAt ops j != some t) || o.after.any fun e => Region.binds .any e && slotAt ops e.on == some t)

def flowOutsN (ops : Array Oper) (k : Nat) (L : List Tmp) : Bool :=
  (List.range k).all fun i => match ops[i]? with
    | none => true
    | some o => (o.looksAt ops).all fun t => L.contains t || (List.range ops.size).any fun j => slotAt ops j == some t

theorem ahead_listed {ops : Array Oper} {l : Array Bool} {M : List (List Nat)} (hM : aheadOk ops M = true) (hback : ∀ (i : Nat) (o : Oper), ops[i]? = some o → ∀ e ∈ o.after, Region.binds .any e = true → e.on < i)
    (hc : ∀ (i : Nat) (o : Oper), ops[i]? = some o → l.getD i true = true → ∀ e ∈ o.after, Region.binds .any e = true → l.getD e.on true = true) :
    ∀ (i : Nat) (o : Oper), ops[i]? = some o → (∀ e ∈ o.after, Region.binds .any e = true → l.getD e.on true = true) → ∀ j ∈ M.getD i [], l.getD j true = true := by
  intro i
  induction i using Nat.strongRecOn with
  | ind i ih =>
    intro o ho he j hj
    have hlt : i < ops.size := by
      rcases Nat.lt_or_ge i ops.size with h | h
      · exact h
      · rw [Array.getElem?_eq_none h] at ho
        cases ho
    unfold aheadOk at hM
    rw [List.all_eq_true] at hM
    have := hM i (by simpa using hlt)
    rw [ho] at this
    simp only [List.all_eq_true, Array.any_eq_true', Bool.and_eq_true, Bool.or_eq_true, beq_iff_eq, List.contains_iff_mem] at this
    obtain ⟨e, hem, hb, h⟩ := this j hj
    have hel := he e hem hb
    rcases h with rfl | h
    · exact hel
    · have hlt' := hback i o ho e hem hb
      obtain ⟨o', ho'⟩ : ∃ o', ops[e.on]? = some o' := ⟨_, Array.getElem?_eq_getElem (by omega)⟩
      exact ih e.on hlt' o' ho' (hc e.on o' ho' hel) j h

theorem getD_le {l : Array Bool} {i : Nat} (h : i < l.size) (b c : Bool) : l.getD i b = l.getD i c := by
  simp [Array.getD_eq_getD_getElem?, h]

set_option maxHeartbeats 2000000 in
theorem region_ivl {P : Program} (R : World → World → Prop) (F : Tmp → Nat → Nat → World → Value → Prop) {ops : Array Oper} {Q : Exit → Act → World → Prop} {id : Nat} {A : Act} {W : World} (hm : P.follows .mixedOrders = true)
    (rdraw : R W { W with drawn := W.drawn + 1 }) (rtrans : ∀ w w', R W w → R w w' → R W w') (rrefl : ∀ w, R w w) (rsize : ∀ w w', R w w' → w.heap.size ≤ w'.heap.size)
    (mono : ∀ t lo hi w w' v, W.heap.size ≤ lo → hi ≤ w.heap.size → R w w' → F t lo hi w v → F t lo hi w' v)
    (n k : Nat) (hn : A.tmps.size = n) (hok : flowOkN ops k = true) (hroom : flowRoom ops n = true) (hM : aheadOk ops (aheadOf ops) = true) (hT : tailOk ops (aheadOf ops) k = true)
    (L : List Tmp) (hL : flowOutsN ops k L = true) (h0 : ∀ t ∈ L, F t W.heap.size W.heap.size W (A.tmps.getD t undef))
    (steps : IvlSteps P R W F (slotAt ops) k ops.toList)
    (fin : ∀ a w (lo hi : Tmp → Nat), R W w → a.tmps.size = A.tmps.size → a.defers = A.defers → (∀ i d, i < k → slotAt ops i = some d → F d (lo d) (hi d) w (a.tmps.getD d undef)) → (∀ t, W.heap.size ≤ lo t ∧ lo t ≤ hi t ∧ hi t ≤ w.heap.size) →
      (∀ i j s t, i < k → j < k → i ≠ j → slotAt ops i = some s → slotAt ops j = some t → hi s ≤ lo t ∨ hi t ≤ lo s) → (∀ t, (∀ j, j < k → slotAt ops j ≠ some t) → a.tmps.getD t undef = A.tmps.getD t undef) →
      wpList P ops Q (ops.toList.drop k) a w) :
    (Code.region id ops true).wp P Q A W := by
  subst hn
  unfold flowOkN at hok
  rw [List.all_eq_true] at hok
  unfold tailOk at hT
  simp only [Bool.and_eq_true, decide_eq_true_eq, List.all_eq_true, List.mem_range, Bool.or_eq_true, List.contains_iff_mem] at hT
  obtain ⟨hkn, hT⟩ := hT
  have hback : ∀ (i : Nat) (o : Oper), ops[i]? = some o → ∀ e ∈ o.after, Region.binds .any e = true → e.on < i := by
    intro i o ho e he hb
    have hlt : i < ops.size := by
      rcases Nat.lt_or_ge i ops.size with h | h
      · exact h
      · rw [Array.getElem?_eq_none h] at ho
        cases ho
    have := hok i (by simpa using hlt)
    rw [ho] at this
    simp only [Bool.and_eq_true, Array.all_eq_true', Bool.or_eq_true, Bool.not_eq_true', decide_eq_true_eq] at this
    rcases this.1.1 e he with h | h
    · rw [hb] at h; cases h
    · exact h
  have huniq : ∀ i j d, slotAt ops i = some d → slotAt ops j = some d → i = j := by
    intro i j d hi hj
    have hlt := slot_lt hi
    have hltj := slot_lt hj
    have := hok i (by simpa using hlt)
    obtain ⟨o, ho⟩ : ∃ o, ops[i]? = some o := ⟨_, Array.getElem?_eq_getElem hlt⟩
    rw [ho] at this
    have hd : o.dst = some d := by unfold slotAt at hi; rw [ho] at hi; exact hi
    simp only [Bool.and_eq_true, hd, List.all_eq_true, List.mem_range, Bool.or_eq_true, beq_iff_eq, bne_iff_ne, ne_eq] at this
    rcases this.1.2 j hltj with h | h
    · exact h.symm
    · exact absurd hj h
  have hreadyE : ∀ {l : Array Bool} {i : Nat} {o : Oper}, i ∈ Region.ready .any ops l → ops[i]? = some o → ∀ e ∈ o.after, Region.binds .any e = true → l.getD e.on false = true := by
    intro l i o hi ho e he hb
    simp only [Region.ready, List.mem_filter, List.mem_range, Bool.and_eq_true, ho, Option.map_some, Option.getD_some, Array.all_eq_true', Bool.or_eq_true, Bool.not_eq_true'] at hi
    rcases hi.2.2 e he with h | h
    · rw [hb] at h; cases h
    · exact h
  have hlistE : ∀ {l : Array Bool} {j : Nat}, l.getD j false = true → l.getD j true = true := by
    intro l j h
    have hlt : j < l.size := by
      rcases Nat.lt_or_ge j l.size with h' | h'
      · exact h'
      · simp [Array.getD_eq_getD_getElem?, Array.getElem?_eq_none h'] at h
    rw [getD_le hlt true false]
    exact h
  have hmin : ∀ {l : Array Bool}, l.size = ops.size → (∃ j, j < ops.size ∧ l.getD j true = false) → Region.ready .any ops l ≠ [] := by
    intro l hls hex hr
    have key : ∀ j, j < ops.size → l.getD j true = true := by
      intro j
      induction j using Nat.strongRecOn with
      | ind j ih =>
        intro hj
        by_cases hl : l.getD j true = true
        · exact hl
        · exfalso
          obtain ⟨o, ho⟩ : ∃ o, ops[j]? = some o := ⟨_, Array.getElem?_eq_getElem hj⟩
          have hmem : j ∈ Region.ready .any ops l := by
            simp only [Region.ready, List.mem_filter, List.mem_range, Bool.and_eq_true, ho, Option.map_some, Option.getD_some, Array.all_eq_true', Bool.or_eq_true, Bool.not_eq_true']
            refine ⟨hj, by simpa using hl, fun e he => ?_⟩
            by_cases hb : Region.binds .any e = true
            · right
              have h := hback j o ho e he hb
              rw [getD_le (by omega) false true]
              exact ih e.on h (by omega)
            · left
              simpa using hb
          rw [hr] at hmem
          cases hmem
    obtain ⟨j, hj, hl⟩ := hex
    rw [key j hj] at hl
    cases hl
  let I : Array Bool → Act → World → Prop := fun l a w =>
    (∃ m, k ≤ m ∧ m ≤ ops.size ∧ l.size = ops.size ∧ (∀ j, j < ops.size → (l.getD j true = true ↔ j < m)) ∧ runFrom P ops Q (ops.size - m) m a w) ∨
    (∃ lo hi, IvlI R F ops k A W lo hi l a w ∧ ∃ j, j < k ∧ l.getD j true = false)
  have enter : ∀ lo hi l a w, IvlI R F ops k A W lo hi l a w → I l a w := by
    intro lo hi l a w hI
    by_cases hex : ∃ j, j < k ∧ l.getD j true = false
    · exact .inr ⟨lo, hi, hI, hex⟩
    · left
      have hall : ∀ j, j < k → l.getD j true = true := by
        intro j hj
        by_cases h : l.getD j true = true
        · exact h
        · exact absurd ⟨j, hj, by simpa using h⟩ hex
      refine ⟨k, Nat.le_refl _, hkn, hI.lsize, fun j hj => ⟨fun h => ?_, hall j⟩, ?_⟩
      · rcases Nat.lt_or_ge j k with h' | h'
        · exact h'
        · have := hI.rest j h' hj
          rw [h] at this
          cases this
      · rw [runFrom_list (ops.size - k) k (by omega)]
        refine fin a w lo hi hI.R hI.size hI.defers (fun i d hik hd => ?_) hI.ivl (fun i j s t hi' hj' hne hs ht => hI.disj i j s t hne hs ht (hall i hi') (hall j hj')) hI.out
        obtain ⟨o, ho⟩ : ∃ o, ops[i]? = some o := ⟨_, Array.getElem?_eq_getElem (slot_lt hd)⟩
        refine hI.facts d ⟨i, o, ho, hik, .inr (by unfold slotAt at hd; rw [ho] at hd; exact hd)⟩ fun j hj => ?_
        rw [huniq j i d hj hd]
        exact hall i hik
  refine region_inv hm I ?_ ?_ ?_
  · refine enter (fun _ => W.heap.size) (fun _ => W.heap.size) _ _ _ ⟨rdraw, rfl, rfl, by simp, ?_, ?_, ?_, fun _ => ⟨Nat.le_refl _, Nat.le_refl _, Nat.le_refl _⟩, fun _ _ _ _ _ _ _ _ _ => .inl (Nat.le_refl _), fun _ _ => rfl⟩
    · intro i o ho hl
      exfalso
      have hlt : i < ops.size := by
        rcases Nat.lt_or_ge i ops.size with h | h
        · exact h
        · rw [Array.getElem?_eq_none h] at ho
          cases ho
      simp [Array.getD_eq_getD_getElem?, hlt] at hl
    · intro j _ hj
      simp [Array.getD_eq_getD_getElem?, hj]
    · rintro t ⟨i, o, hi, hik, hto⟩ hl
      have hno : ∀ j, slotAt ops j ≠ some t := by
        intro j hj
        have hlt := slot_lt hj
        have := hl j hj
        simp [Array.getD_eq_getD_getElem?, hlt] at this
      rcases hto with hto | hto
      · refine mono _ _ _ _ _ _ (Nat.le_refl _) (Nat.le_refl _) rdraw (h0 t ?_)
        unfold flowOutsN at hL
        rw [List.all_eq_true] at hL
        have := hL i (by simpa using hik)
        rw [hi] at this
        simp only [List.all_eq_true, Bool.or_eq_true, List.any_eq_true, List.mem_range, beq_iff_eq] at this
        rcases this t hto with h | ⟨j, _, h⟩
        · simpa using h
        · exact absurd h (hno j)
      · exact absurd (show slotAt ops i = some t by unfold slotAt; rw [hi]; exact hto) (hno i)
  · intro i l a w hi hI
    have hlt := ready_left hi
    obtain ⟨o, ho⟩ : ∃ o, ops[i]? = some o := ⟨_, Array.getElem?_eq_getElem hlt.1⟩
    have hE := hreadyE hi ho
    rcases hI with ⟨m, hkm, hmn, hls, hlm, hrun⟩ | ⟨lo, hi', hI, j0, hj0, hl0⟩
    · have him : m ≤ i := by
        rcases Nat.lt_or_ge i m with h | h
        · have := (hlm i hlt.1).2 h
          rw [hlt.2] at this
          cases this
        · exact h
      have hcl : ∀ (i : Nat) (o : Oper), ops[i]? = some o → l.getD i true = true → ∀ e ∈ o.after, Region.binds .any e = true → l.getD e.on true = true := by
        intro i' o' ho' hl' e he hb
        have hb' := hback i' o' ho' e he hb
        have hlt' : i' < ops.size := by
          rcases Nat.lt_or_ge i' ops.size with h | h
          · exact h
          · rw [Array.getElem?_eq_none h] at ho'
            cases ho'
        exact (hlm e.on (by omega)).2 (by have := (hlm i' hlt').1 hl'; omega)
      have hahead := ahead_listed hM hback hcl i o ho (fun e he hb => hlistE (hE e he hb))
      have hmi : i = m := by
        rcases Nat.lt_or_ge m i with h | h
        · rcases hT i hlt.1 with h' | h'
          · omega
          · have := hahead m (h' m (by omega))
            have := (hlm m (by omega)).1 this
            omega
        · omega
      subst hmi
      have hsz : ops.size - i = (ops.size - (i + 1)) + 1 := by omega
      rw [hsz] at hrun
      refine wpOp_mono ?_ hrun
      intro a' w' hr'
      refine .inl ⟨i + 1, by omega, by omega, by simpa using hls, fun j hj => ?_, hr'⟩
      by_cases hji : i = j
      · subst hji
        simp [Array.getD_eq_getD_getElem?, hls, hj]
      · have := hlm j hj
        simp only [Array.getD_eq_getD_getElem?, Array.getElem?_setIfInBounds, hji, if_false] at this ⊢
        rw [this]
        omega
    · have hahead := ahead_listed hM hback hI.closed i o ho (fun e he hb => hlistE (hE e he hb))
      have hik : i < k := by
        rcases Nat.lt_or_ge i k with h | h
        · exact h
        · exfalso
          rcases hT i hlt.1 with h' | h'
          · omega
          · have := hahead j0 (h' j0 (by omega))
            rw [hl0] at this
            cases this
      have hoki := hok i (by simpa using hlt.1)
      rw [ho] at hoki
      simp only [Bool.and_eq_true, List.all_eq_true, Bool.or_eq_true, bne_iff_ne, ne_eq, List.mem_range, Array.any_eq_true', beq_iff_eq, decide_eq_true_eq] at hoki
      obtain ⟨_, hlooks⟩ := hoki
      have hlooks' := hlooks.resolve_left (by omega)
      have hfacts : ∀ t, (.tmp t ∈ o.op.operands.toList ∨ ∃ g, o.guard = some g ∧ slotAt ops g.1 = some t) → ∃ lo hi, F t lo hi w (a.tmps.getD t undef) := by
        intro t ht
        have hmem := looksAt_mem ht
        refine ⟨lo t, hi' t, hI.facts t ⟨i, o, ho, hik, .inl hmem⟩ ?_⟩
        intro j hj
        rcases hlooks' t hmem with h | ⟨e, he, hb, hs⟩
        · exact absurd hj (h j (slot_lt hj))
        · rw [huniq j e.on t hj hs]
          exact hlistE (hE e he hb)
      have hst := ivlSteps_get steps (i := i) (o := o) hik (by simpa using ho) a w Q hI.R hfacts
      have hw := flow_wanted (ops := ops) (a := a) (o := o) (by rw [hI.size]; exact hroom)
      have next : ∀ v w', R w w' → (∀ d, o.dst = some d → F d w.heap.size w'.heap.size w' v) → IvlI R F ops k A W (fun t => if o.dst = some t then w.heap.size else lo t) (fun t => if o.dst = some t then w'.heap.size else hi' t) (l.setIfInBounds i true) (a.put o.dst v) w' := by
        intro v w' hb hd
        have hlst : ∀ j, j ≠ i → (l.setIfInBounds i true).getD j true = l.getD j true := by
          intro j hj
          have : i ≠ j := fun e => hj e.symm
          simp [Array.getD_eq_getD_getElem?, this]
        have hdlt : ∀ d, o.dst = some d → d < a.tmps.size := by
          intro d hd'
          rw [hI.size]
          unfold flowRoom at hroom
          rw [List.all_eq_true] at hroom
          have := hroom i (by simpa using hlt.1)
          have hs : slotAt ops i = some d := by unfold slotAt; rw [ho]; exact hd'
          rw [hs] at this
          simpa using this
        have hsl : slotAt ops i = o.dst := by unfold slotAt; rw [ho]; rfl
        have hold : ∀ t, (∀ j, slotAt ops j = some t → (l.setIfInBounds i true).getD j true = true) → o.dst ≠ some t → ∀ j, slotAt ops j = some t → l.getD j true = true := by
          intro t hl hne j hj
          have hne' : j ≠ i := by
            rintro rfl
            rw [hsl] at hj
            exact hne hj
          rw [← hlst j hne']
          exact hl j hj
        have hget : ∀ t, o.dst ≠ some t → (a.put o.dst v).tmps.getD t undef = a.tmps.getD t undef := by
          intro t hne
          cases hdst : o.dst with
          | none => rfl
          | some d =>
            rw [put_getD _ _ _ _ (hdlt d hdst), if_neg]
            rintro rfl
            exact hne hdst
        have hgot : ∀ t, o.dst = some t → (a.put o.dst v).tmps.getD t undef = v := by
          intro t he
          rw [he, put_getD _ _ _ _ (hdlt t he), if_pos rfl]
        refine ⟨rtrans _ _ hI.R hb, by rw [put_size]; exact hI.size, ?_, by simpa using hI.lsize, ?_, ?_, ?_, ?_, ?_, ?_⟩
        · cases o.dst <;> exact hI.defers
        · intro i' o' ho' hl' e he hbd
          by_cases hii : i' = i
          · subst hii
            have e1 : o' = o := by rw [ho] at ho'; exact (Option.some.inj ho').symm
            subst e1
            by_cases hei : e.on = i'
            · have := hback i' o' ho' e he hbd
              omega
            · rw [hlst _ hei]
              exact hlistE (hE e he hbd)
          · rw [hlst i' hii] at hl'
            have := hI.closed i' o' ho' hl' e he hbd
            by_cases hei : e.on = i
            · rw [hei]
              have hls : i < l.size := by rw [hI.lsize]; exact hlt.1
              simp [Array.getD_eq_getD_getElem?, hls]
            · rw [hlst _ hei]
              exact this
        · intro j hj hjn
          rw [hlst j (by omega)]
          exact hI.rest j hj hjn
        · intro t ht hl
          by_cases he : o.dst = some t
          · rw [hgot t he]
            simp only [if_pos he]
            exact hd t he
          · rw [hget t he]
            simp only [if_neg he]
            exact mono t _ _ w w' _ (hI.ivl t).1 (hI.ivl t).2.2 hb (hI.facts t ht (hold t hl he))
        · intro t
          have h1 := rsize _ _ hb
          have h2 := rsize _ _ hI.R
          have h3 := hI.ivl t
          by_cases he : o.dst = some t
          · simp only [if_pos he]
            exact ⟨h2, h1, Nat.le_refl _⟩
          · simp only [if_neg he]
            exact ⟨h3.1, h3.2.1, Nat.le_trans h3.2.2 h1⟩
        · intro i1 j1 s t hne hs ht hl1 hl2
          by_cases h1 : i1 = i
          · subst h1
            have hds : o.dst = some s := by rw [← hsl]; exact hs
            have hdt : o.dst ≠ some t := fun e => hne (huniq i1 j1 t (by rw [hsl]; exact e) ht)
            simp only [if_pos hds, if_neg hdt]
            exact .inr (hI.ivl t).2.2
          · have hds : o.dst ≠ some s := fun e => h1 (huniq i1 i s hs (by rw [hsl]; exact e))
            by_cases h2 : j1 = i
            · subst h2
              have hdt : o.dst = some t := by rw [← hsl]; exact ht
              simp only [if_neg hds, if_pos hdt]
              exact .inl (hI.ivl s).2.2
            · have hdt : o.dst ≠ some t := fun e => h2 (huniq j1 i t ht (by rw [hsl]; exact e))
              simp only [if_neg hds, if_neg hdt]
              rw [hlst i1 h1] at hl1
              rw [hlst j1 h2] at hl2
              exact hI.disj i1 j1 s t hne hs ht hl1 hl2
        · intro t ht
          have he : o.dst ≠ some t := by
            intro e
            exact ht i hik (by rw [hsl]; exact e)
          rw [hget t he]
          exact hI.out t ht
      unfold wpOp
      rw [ho]
      simp only
      rw [hw]
      by_cases hwant : flowWanted (slotAt ops) o (fun t => a.tmps.getD t undef) = true
      · rw [if_pos hwant]
        left
        refine Oper.wp_mono ?_ (hst.1 hwant)
        rintro a' w' ⟨v, rfl, hb, hd⟩
        exact enter _ _ _ _ _ (next v w' hb hd)
      · rw [if_neg hwant]
        exact enter _ _ _ _ _ (next undef w (rrefl w) (hst.2 (by simpa using hwant)))
  · intro l a w hr hI
    rcases hI with ⟨m, hkm, hmn, hls, hlm, hrun⟩ | ⟨lo, hi', hI, j0, hj0, hl0⟩
    · have hm' : m = ops.size := by
        rcases Nat.lt_or_ge m ops.size with h | h
        · exfalso
          refine hmin hls ⟨m, h, ?_⟩ hr
          have := hlm m h
          cases hb : l.getD m true
          · rfl
          · have := this.1 hb
            omega
        · omega
      subst hm'
      simpa [runFrom] using hrun
    · exact absurd hr (hmin hI.lsize ⟨j0, by omega, hl0⟩)


section
variable (P : Program) (R R' : World → World → Prop) (J K : World → Prop) (W : World) (F : Tmp → Nat → Nat → World → Value → Prop) (G : Nat → Option Tmp)
/-- What the operations must do where one of them, the c-th, alone may do more to the world than the others; ahead of it J holds. -/
def PhaseStep (o : Oper) : Prop :=
  ∀ (a : Act) (w : World) (Q : Exit → Act → World → Prop), R W w → (∀ t, (.tmp t ∈ o.op.operands.toList ∨ ∃ g, o.guard = some g ∧ G g.1 = some t) → ∃ lo hi, F t lo hi w (a.tmps.getD t undef)) →
    (flowWanted G o (fun t => a.tmps.getD t undef) = true → o.wp P a w (fun a' w' => ∃ v, a' = a.put o.dst v ∧ R' w w' ∧ ∀ d, o.dst = some d → F d w.heap.size w'.heap.size w' v) Q) ∧
    (flowWanted G o (fun t => a.tmps.getD t undef) = false → ∀ d, o.dst = some d → F d w.heap.size w.heap.size w undef)
def PhaseStepC (o : Oper) : Prop :=
  ∀ (a : Act) (w : World) (Q : Exit → Act → World → Prop), R W w → J w → (∀ t, (.tmp t ∈ o.op.operands.toList ∨ ∃ g, o.guard = some g ∧ G g.1 = some t) → ∃ lo hi, F t lo hi w (a.tmps.getD t undef)) →
    (flowWanted G o (fun t => a.tmps.getD t undef) = true → o.wp P a w (fun a' w' => ∃ v, a' = a.put o.dst v ∧ R w w' ∧ K w' ∧ ∀ d, o.dst = some d → F d w.heap.size w'.heap.size w' v) Q) ∧
    (flowWanted G o (fun t => a.tmps.getD t undef) = false → K w ∧ ∀ d, o.dst = some d → F d w.heap.size w.heap.size w undef)
def StepsNo : Nat → List Oper → Prop
  | 0, _ => True
  | _ + 1, [] => True
  | k + 1, o :: r => PhaseStep P R R' W F G o ∧ StepsNo k r
def StepsBut : Nat → Nat → List Oper → Prop
  | _, 0, _ => True
  | _, _ + 1, [] => True
  | 0, k + 1, o :: r => PhaseStepC P R J K W F G o ∧ StepsNo P R R' W F G k r
  | c + 1, k + 1, o :: r => PhaseStep P R R' W F G o ∧ StepsBut c k r
end
section
variable {P : Program} {R R' : World → World → Prop} {J K : World → Prop} {W : World} {F : Tmp → Nat → Nat → World → Value → Prop} {G : Nat → Option Tmp}
theorem stepsNo_get : ∀ {k : Nat} {l : List Oper} (_ : StepsNo P R R' W F G k l) {i : Nat} {o : Oper}, i < k → l[i]? = some o → PhaseStep P R R' W F G o
  | 0, _, _, _, _, h, _ => by omega
  | k + 1, [], _, i, o, _, h => by simp at h
  | k + 1, x :: r, hs, 0, o, _, h => by
    obtain rfl : x = o := by simpa using h
    exact hs.1
  | k + 1, x :: r, hs, i + 1, o, hk, h => stepsNo_get (k := k) (l := r) hs.2 (i := i) (o := o) (Nat.lt_of_succ_lt_succ hk) (by simpa using h)
theorem stepsBut_get : ∀ {c k : Nat} {l : List Oper} (_ : StepsBut P R R' J K W F G c k l) {i : Nat} {o : Oper}, i < k → i ≠ c → l[i]? = some o → PhaseStep P R R' W F G o
  | _, 0, _, _, _, _, h, _, _ => by omega
  | _, k + 1, [], _, i, o, _, _, h => by simp at h
  | 0, k + 1, x :: r, hs, 0, o, _, hn, h => absurd rfl hn
  | 0, k + 1, x :: r, hs, i + 1, o, hk, hn, h => stepsNo_get (k := k) (l := r) hs.2 (i := i) (o := o) (Nat.lt_of_succ_lt_succ hk) (by simpa using h)
  | c + 1, k + 1, x :: r, hs, 0, o, _, _, h => by
    obtain rfl : x = o := by simpa using h
    exact hs.1
  | c + 1, k + 1, x :: r, hs, i + 1, o, hk, hn, h => stepsBut_get (c := c) (k := k) (l := r) hs.2 (i := i) (o := o) (Nat.lt_of_succ_lt_succ hk) (by omega) (by simpa using h)
theorem stepsBut_at : ∀ {c k : Nat} {l : List Oper} (_ : StepsBut P R R' J K W F G c k l) {o : Oper}, c < k → l[c]? = some o → PhaseStepC P R J K W F G o
  | _, 0, _, _, _, h, _ => by omega
  | _, k + 1, [], _, o, _, h => by simp at h
  | 0, k + 1, x :: r, hs, o, _, h => by
    obtain rfl : x = o := by simpa using h
    exact hs.1
  | c + 1, k + 1, x :: r, hs, o, hk, h => stepsBut_at (c := c) (k := k) (l := r) hs.2 (o := o) (Nat.lt_of_succ_lt_succ hk) (by simpa using h)
end
structure PhaseI (R : World → World → Prop) (J K : World → Prop) (c : Nat) (F : Tmp → Nat → Nat → World → Value → Prop) (ops : Array Oper) (k : Nat) (A : Act) (W : World) (lo hi : Tmp → Nat) (l : Array Bool) (a : Act) (w : World) : Prop where
  R : R W w
  size : a.tmps.size = A.tmps.size
  defers : a.defers = A.defers
  lsize : l.size = ops.size
  jc : l.getD c true = false → J w
  kc : l.getD c true = true → K w
  closed : ∀ (i : Nat) (o : Oper), ops[i]? = some o → l.getD i true = true → ∀ e ∈ o.after, Region.binds .any e = true → l.getD e.on true = true
  rest : ∀ j, k ≤ j → j < ops.size → l.getD j true = false
  facts : ∀ t, (∃ (i : Nat) (o : Oper), ops[i]? = some o ∧ i < k ∧ (t ∈ o.looksAt ops ∨ o.dst = some t)) → (∀ j, slotAt ops j = some t → l.getD j true = true) → F t (lo t) (hi t) w (a.tmps.getD t undef)
  ivl : ∀ t, W.heap.size ≤ lo t ∧ lo t ≤ hi t ∧ hi t ≤ w.heap.size
  disj : ∀ i j s t, i ≠ j → slotAt ops i = some s → slotAt ops j = some t → l.getD i true = true → l.getD j true = true → hi s ≤ lo t ∨ hi t ≤ lo s
  out : ∀ t, (∀ j, j < k → slotAt ops j ≠ some t) → a.tmps.getD t undef = A.tmps.getD t undef

set_option maxHeartbeats 2000000 in
theorem region_phase {P : Program} (R R' : World → World → Prop) (J K : World → Prop) (c : Nat) (F : Tmp → Nat → Nat → World → Value → Prop) {ops : Array Oper} {Q : Exit → Act → World → Prop} {id : Nat} {A : Act} {W : World} (hm : P.follows .mixedOrders = true)
    (rdraw : R W { W with drawn := W.drawn + 1 }) (rtrans : ∀ w w', R W w → R w w' → R W w') (rrefl : ∀ w, R' w w) (rsub : ∀ w w', R' w w' → R w w') (hJ : J { W with drawn := W.drawn + 1 }) (jmono : ∀ w w', R' w w' → J w → J w') (kmono : ∀ w w', R' w w' → K w → K w') (rsize : ∀ w w', R w w' → w.heap.size ≤ w'.heap.size)
    (mono : ∀ t lo hi w w' v, W.heap.size ≤ lo → hi ≤ w.heap.size → R w w' → F t lo hi w v → F t lo hi w' v)
    (n k : Nat) (hn : A.tmps.size = n) (hok : flowOkN ops k = true) (hroom : flowRoom ops n = true) (hM : aheadOk ops (aheadOf ops) = true) (hT : tailOk ops (aheadOf ops) k = true)
    (L : List Tmp) (hL : flowOutsN ops k L = true) (h0 : ∀ t ∈ L, F t W.heap.size W.heap.size W (A.tmps.getD t undef))
    (hc : c < k) (steps : StepsBut P R R' J K W F (slotAt ops) c k ops.toList)
    (fin : ∀ a w (lo hi : Tmp → Nat), R W w → a.tmps.size = A.tmps.size → a.defers = A.defers → (∀ i d, i < k → slotAt ops i = some d → F d (lo d) (hi d) w (a.tmps.getD d undef)) → (∀ t, W.heap.size ≤ lo t ∧ lo t ≤ hi t ∧ hi t ≤ w.heap.size) →
      (∀ i j s t, i < k → j < k → i ≠ j → slotAt ops i = some s → slotAt ops j = some t → hi s ≤ lo t ∨ hi t ≤ lo s) → K w → (∀ t, (∀ j, j < k → slotAt ops j ≠ some t) → a.tmps.getD t undef = A.tmps.getD t undef) →
      wpList P ops Q (ops.toList.drop k) a w) :
    (Code.region id ops true).wp P Q A W := by
  subst hn
  unfold flowOkN at hok
  rw [List.all_eq_true] at hok
  unfold tailOk at hT
  simp only [Bool.and_eq_true, decide_eq_true_eq, List.all_eq_true, List.mem_range, Bool.or_eq_true, List.contains_iff_mem] at hT
  obtain ⟨hkn, hT⟩ := hT
  have hback : ∀ (i : Nat) (o : Oper), ops[i]? = some o → ∀ e ∈ o.after, Region.binds .any e = true → e.on < i := by
    intro i o ho e he hb
    have hlt : i < ops.size := by
      rcases Nat.lt_or_ge i ops.size with h | h
      · exact h
      · rw [Array.getElem?_eq_none h] at ho
        cases ho
    have := hok i (by simpa using hlt)
    rw [ho] at this
    simp only [Bool.and_eq_true, Array.all_eq_true', Bool.or_eq_true, Bool.not_eq_true', decide_eq_true_eq] at this
    rcases this.1.1 e he with h | h
    · rw [hb] at h; cases h
    · exact h
  have huniq : ∀ i j d, slotAt ops i = some d → slotAt ops j = some d → i = j := by
    intro i j d hi hj
    have hlt := slot_lt hi
    have hltj := slot_lt hj
    have := hok i (by simpa using hlt)
    obtain ⟨o, ho⟩ : ∃ o, ops[i]? = some o := ⟨_, Array.getElem?_eq_getElem hlt⟩
    rw [ho] at this
    have hd : o.dst = some d := by unfold slotAt at hi; rw [ho] at hi; exact hi
    simp only [Bool.and_eq_true, hd, List.all_eq_true, List.mem_range, Bool.or_eq_true, beq_iff_eq, bne_iff_ne, ne_eq] at this
    rcases this.1.2 j hltj with h | h
    · exact h.symm
    · exact absurd hj h
  have hreadyE : ∀ {l : Array Bool} {i : Nat} {o : Oper}, i ∈ Region.ready .any ops l → ops[i]? = some o → ∀ e ∈ o.after, Region.binds .any e = true → l.getD e.on false = true := by
    intro l i o hi ho e he hb
    simp only [Region.ready, List.mem_filter, List.mem_range, Bool.and_eq_true, ho, Option.map_some, Option.getD_some, Array.all_eq_true', Bool.or_eq_true, Bool.not_eq_true'] at hi
    rcases hi.2.2 e he with h | h
    · rw [hb] at h; cases h
    · exact h
  have hlistE : ∀ {l : Array Bool} {j : Nat}, l.getD j false = true → l.getD j true = true := by
    intro l j h
    have hlt : j < l.size := by
      rcases Nat.lt_or_ge j l.size with h' | h'
      · exact h'
      · simp [Array.getD_eq_getD_getElem?, Array.getElem?_eq_none h'] at h
    rw [getD_le hlt true false]
    exact h
  have hmin : ∀ {l : Array Bool}, l.size = ops.size → (∃ j, j < ops.size ∧ l.getD j true = false) → Region.ready .any ops l ≠ [] := by
    intro l hls hex hr
    have key : ∀ j, j < ops.size → l.getD j true = true := by
      intro j
      induction j using Nat.strongRecOn with
      | ind j ih =>
        intro hj
        by_cases hl : l.getD j true = true
        · exact hl
        · exfalso
          obtain ⟨o, ho⟩ : ∃ o, ops[j]? = some o := ⟨_, Array.getElem?_eq_getElem hj⟩
          have hmem : j ∈ Region.ready .any ops l := by
            simp only [Region.ready, List.mem_filter, List.mem_range, Bool.and_eq_true, ho, Option.map_some, Option.getD_some, Array.all_eq_true', Bool.or_eq_true, Bool.not_eq_true']
            refine ⟨hj, by simpa using hl, fun e he => ?_⟩
            by_cases hb : Region.binds .any e = true
            · right
              have h := hback j o ho e he hb
              rw [getD_le (by omega) false true]
              exact ih e.on h (by omega)
            · left
              simpa using hb
          rw [hr] at hmem
          cases hmem
    obtain ⟨j, hj, hl⟩ := hex
    rw [key j hj] at hl
    cases hl
  let I : Array Bool → Act → World → Prop := fun l a w =>
    (∃ m, k ≤ m ∧ m ≤ ops.size ∧ l.size = ops.size ∧ (∀ j, j < ops.size → (l.getD j true = true ↔ j < m)) ∧ runFrom P ops Q (ops.size - m) m a w) ∨
    (∃ lo hi, PhaseI R J K c F ops k A W lo hi l a w ∧ ∃ j, j < k ∧ l.getD j true = false)
  have enter : ∀ lo hi l a w, PhaseI R J K c F ops k A W lo hi l a w → I l a w := by
    intro lo hi l a w hI
    by_cases hex : ∃ j, j < k ∧ l.getD j true = false
    · exact .inr ⟨lo, hi, hI, hex⟩
    · left
      have hall : ∀ j, j < k → l.getD j true = true := by
        intro j hj
        by_cases h : l.getD j true = true
        · exact h
        · exact absurd ⟨j, hj, by simpa using h⟩ hex
      refine ⟨k, Nat.le_refl _, hkn, hI.lsize, fun j hj => ⟨fun h => ?_, hall j⟩, ?_⟩
      · rcases Nat.lt_or_ge j k with h' | h'
        · exact h'
        · have := hI.rest j h' hj
          rw [h] at this
          cases this
      · rw [runFrom_list (ops.size - k) k (by omega)]
        refine fin a w lo hi hI.R hI.size hI.defers (fun i d hik hd => ?_) hI.ivl (fun i j s t hi' hj' hne hs ht => hI.disj i j s t hne hs ht (hall i hi') (hall j hj')) (hI.kc (hall c hc)) hI.out
        obtain ⟨o, ho⟩ : ∃ o, ops[i]? = some o := ⟨_, Array.getElem?_eq_getElem (slot_lt hd)⟩
        refine hI.facts d ⟨i, o, ho, hik, .inr (by unfold slotAt at hd; rw [ho] at hd; exact hd)⟩ fun j hj => ?_
        rw [huniq j i d hj hd]
        exact hall i hik
  refine region_inv hm I ?_ ?_ ?_
  · refine enter (fun _ => W.heap.size) (fun _ => W.heap.size) _ _ _ ⟨rdraw, rfl, rfl, by simp, fun _ => hJ, fun hlc => (by have hcs : c < ops.size := Nat.lt_of_lt_of_le hc hkn; simp [Array.getD_eq_getD_getElem?, hcs] at hlc), ?_, ?_, ?_, fun _ => ⟨Nat.le_refl _, Nat.le_refl _, Nat.le_refl _⟩, fun _ _ _ _ _ _ _ _ _ => .inl (Nat.le_refl _), fun _ _ => rfl⟩
    · intro i o ho hl
      exfalso
      have hlt : i < ops.size := by
        rcases Nat.lt_or_ge i ops.size with h | h
        · exact h
        · rw [Array.getElem?_eq_none h] at ho
          cases ho
      simp [Array.getD_eq_getD_getElem?, hlt] at hl
    · intro j _ hj
      simp [Array.getD_eq_getD_getElem?, hj]
    · rintro t ⟨i, o, hi, hik, hto⟩ hl
      have hno : ∀ j, slotAt ops j ≠ some t := by
        intro j hj
        have hlt := slot_lt hj
        have := hl j hj
        simp [Array.getD_eq_getD_getElem?, hlt] at this
      rcases hto with hto | hto
      · refine mono _ _ _ _ _ _ (Nat.le_refl _) (Nat.le_refl _) rdraw (h0 t ?_)
        unfold flowOutsN at hL
        rw [List.all_eq_true] at hL
        have := hL i (by simpa using hik)
        rw [hi] at this
        simp only [List.all_eq_true, Bool.or_eq_true, List.any_eq_true, List.mem_range, beq_iff_eq] at this
        rcases this t hto with h | ⟨j, _, h⟩
        · simpa using h
        · exact absurd h (hno j)
      · exact absurd (show slotAt ops i = some t by unfold slotAt; rw [hi]; exact hto) (hno i)
  · intro i l a w hi hI
    have hlt := ready_left hi
    obtain ⟨o, ho⟩ : ∃ o, ops[i]? = some o := ⟨_, Array.getElem?_eq_getElem hlt.1⟩
    have hE := hreadyE hi ho
    rcases hI with ⟨m, hkm, hmn, hls, hlm, hrun⟩ | ⟨lo, hi', hI, j0, hj0, hl0⟩
    · have him : m ≤ i := by
        rcases Nat.lt_or_ge i m with h | h
        · have := (hlm i hlt.1).2 h
          rw [hlt.2] at this
          cases this
        · exact h
      have hcl : ∀ (i : Nat) (o : Oper), ops[i]? = some o → l.getD i true = true → ∀ e ∈ o.after, Region.binds .any e = true → l.getD e.on true = true := by
        intro i' o' ho' hl' e he hb
        have hb' := hback i' o' ho' e he hb
        have hlt' : i' < ops.size := by
          rcases Nat.lt_or_ge i' ops.size with h | h
          · exact h
          · rw [Array.getElem?_eq_none h] at ho'
            cases ho'
        exact (hlm e.on (by omega)).2 (by have := (hlm i' hlt').1 hl'; omega)
      have hahead := ahead_listed hM hback hcl i o ho (fun e he hb => hlistE (hE e he hb))
      have hmi : i = m := by
        rcases Nat.lt_or_ge m i with h | h
        · rcases hT i hlt.1 with h' | h'
          · omega
          · have := hahead m (h' m (by omega))
            have := (hlm m (by omega)).1 this
            omega
        · omega
      subst hmi
      have hsz : ops.size - i = (ops.size - (i + 1)) + 1 := by omega
      rw [hsz] at hrun
      refine wpOp_mono ?_ hrun
      intro a' w' hr'
      refine .inl ⟨i + 1, by omega, by omega, by simpa using hls, fun j hj => ?_, hr'⟩
      by_cases hji : i = j
      · subst hji
        simp [Array.getD_eq_getD_getElem?, hls, hj]
      · have := hlm j hj
        simp only [Array.getD_eq_getD_getElem?, Array.getElem?_setIfInBounds, hji, if_false] at this ⊢
        rw [this]
        omega
    · have hahead := ahead_listed hM hback hI.closed i o ho (fun e he hb => hlistE (hE e he hb))
      have hik : i < k := by
        rcases Nat.lt_or_ge i k with h | h
        · exact h
        · exfalso
          rcases hT i hlt.1 with h' | h'
          · omega
          · have := hahead j0 (h' j0 (by omega))
            rw [hl0] at this
            cases this
      have hoki := hok i (by simpa using hlt.1)
      rw [ho] at hoki
      simp only [Bool.and_eq_true, List.all_eq_true, Bool.or_eq_true, bne_iff_ne, ne_eq, List.mem_range, Array.any_eq_true', beq_iff_eq, decide_eq_true_eq] at hoki
      obtain ⟨_, hlooks⟩ := hoki
      have hlooks' := hlooks.resolve_left (by omega)
      have hfacts : ∀ t, (.tmp t ∈ o.op.operands.toList ∨ ∃ g, o.guard = some g ∧ slotAt ops g.1 = some t) → ∃ lo hi, F t lo hi w (a.tmps.getD t undef) := by
        intro t ht
        have hmem := looksAt_mem ht
        refine ⟨lo t, hi' t, hI.facts t ⟨i, o, ho, hik, .inl hmem⟩ ?_⟩
        intro j hj
        rcases hlooks' t hmem with h | ⟨e, he, hb, hs⟩
        · exact absurd hj (h j (slot_lt hj))
        · rw [huniq j e.on t hj hs]
          exact hlistE (hE e he hb)
      have hw := flow_wanted (ops := ops) (a := a) (o := o) (by rw [hI.size]; exact hroom)
      have next : ∀ v w', R w w' → (i ≠ c → l.getD c true = false → J w') → (i = c ∨ l.getD c true = true → K w') → (∀ d, o.dst = some d → F d w.heap.size w'.heap.size w' v) → PhaseI R J K c F ops k A W (fun t => if o.dst = some t then w.heap.size else lo t) (fun t => if o.dst = some t then w'.heap.size else hi' t) (l.setIfInBounds i true) (a.put o.dst v) w' := by
        intro v w' hb hjw hkw hd
        have hlst : ∀ j, j ≠ i → (l.setIfInBounds i true).getD j true = l.getD j true := by
          intro j hj
          have : i ≠ j := fun e => hj e.symm
          simp [Array.getD_eq_getD_getElem?, this]
        have hdlt : ∀ d, o.dst = some d → d < a.tmps.size := by
          intro d hd'
          rw [hI.size]
          unfold flowRoom at hroom
          rw [List.all_eq_true] at hroom
          have := hroom i (by simpa using hlt.1)
          have hs : slotAt ops i = some d := by unfold slotAt; rw [ho]; exact hd'
          rw [hs] at this
          simpa using this
        have hsl : slotAt ops i = o.dst := by unfold slotAt; rw [ho]; rfl
        have hold : ∀ t, (∀ j, slotAt ops j = some t → (l.setIfInBounds i true).getD j true = true) → o.dst ≠ some t → ∀ j, slotAt ops j = some t → l.getD j true = true := by
          intro t hl hne j hj
          have hne' : j ≠ i := by
            rintro rfl
            rw [hsl] at hj
            exact hne hj
          rw [← hlst j hne']
          exact hl j hj
        have hget : ∀ t, o.dst ≠ some t → (a.put o.dst v).tmps.getD t undef = a.tmps.getD t undef := by
          intro t hne
          cases hdst : o.dst with
          | none => rfl
          | some d =>
            rw [put_getD _ _ _ _ (hdlt d hdst), if_neg]
            rintro rfl
            exact hne hdst
        have hgot : ∀ t, o.dst = some t → (a.put o.dst v).tmps.getD t undef = v := by
          intro t he
          rw [he, put_getD _ _ _ _ (hdlt t he), if_pos rfl]
        refine ⟨rtrans _ _ hI.R hb, by rw [put_size]; exact hI.size, ?_, by simpa using hI.lsize, ?_, ?_, ?_, ?_, ?_, ?_, ?_, ?_⟩
        · cases o.dst <;> exact hI.defers
        · intro hlc
          by_cases hci : c = i
          · subst hci
            have hls : c < l.size := by rw [hI.lsize]; exact hlt.1
            simp [Array.getD_eq_getD_getElem?, hls] at hlc
          · rw [hlst c hci] at hlc
            exact hjw (fun e => hci e.symm) hlc
        · intro hlc
          by_cases hci : c = i
          · exact hkw (.inl hci.symm)
          · rw [hlst c hci] at hlc
            exact hkw (.inr hlc)
        · intro i' o' ho' hl' e he hbd
          by_cases hii : i' = i
          · subst hii
            have e1 : o' = o := by rw [ho] at ho'; exact (Option.some.inj ho').symm
            subst e1
            by_cases hei : e.on = i'
            · have := hback i' o' ho' e he hbd
              omega
            · rw [hlst _ hei]
              exact hlistE (hE e he hbd)
          · rw [hlst i' hii] at hl'
            have := hI.closed i' o' ho' hl' e he hbd
            by_cases hei : e.on = i
            · rw [hei]
              have hls : i < l.size := by rw [hI.lsize]; exact hlt.1
              simp [Array.getD_eq_getD_getElem?, hls]
            · rw [hlst _ hei]
              exact this
        · intro j hj hjn
          rw [hlst j (by omega)]
          exact hI.rest j hj hjn
        · intro t ht hl
          by_cases he : o.dst = some t
          · rw [hgot t he]
            simp only [if_pos he]
            exact hd t he
          · rw [hget t he]
            simp only [if_neg he]
            exact mono t _ _ w w' _ (hI.ivl t).1 (hI.ivl t).2.2 hb (hI.facts t ht (hold t hl he))
        · intro t
          have h1 := rsize _ _ hb
          have h2 := rsize _ _ hI.R
          have h3 := hI.ivl t
          by_cases he : o.dst = some t
          · simp only [if_pos he]
            exact ⟨h2, h1, Nat.le_refl _⟩
          · simp only [if_neg he]
            exact ⟨h3.1, h3.2.1, Nat.le_trans h3.2.2 h1⟩
        · intro i1 j1 s t hne hs ht hl1 hl2
          by_cases h1 : i1 = i
          · subst h1
            have hds : o.dst = some s := by rw [← hsl]; exact hs
            have hdt : o.dst ≠ some t := fun e => hne (huniq i1 j1 t (by rw [hsl]; exact e) ht)
            simp only [if_pos hds, if_neg hdt]
            exact .inr (hI.ivl t).2.2
          · have hds : o.dst ≠ some s := fun e => h1 (huniq i1 i s hs (by rw [hsl]; exact e))
            by_cases h2 : j1 = i
            · subst h2
              have hdt : o.dst = some t := by rw [← hsl]; exact ht
              simp only [if_neg hds, if_pos hdt]
              exact .inl (hI.ivl s).2.2
            · have hdt : o.dst ≠ some t := fun e => h2 (huniq j1 i t ht (by rw [hsl]; exact e))
              simp only [if_neg hds, if_neg hdt]
              rw [hlst i1 h1] at hl1
              rw [hlst j1 h2] at hl2
              exact hI.disj i1 j1 s t hne hs ht hl1 hl2
        · intro t ht
          have he : o.dst ≠ some t := by
            intro e
            exact ht i hik (by rw [hsl]; exact e)
          rw [hget t he]
          exact hI.out t ht
      unfold wpOp
      rw [ho]
      simp only
      rw [hw]
      by_cases hic : i = c
      · have hlc : l.getD c true = false := by rw [← hic]; exact hlt.2
        have hst := stepsBut_at steps hc (o := o) (by rw [← hic]; simpa using ho) a w Q hI.R (hI.jc hlc) hfacts
        by_cases hwant : flowWanted (slotAt ops) o (fun t => a.tmps.getD t undef) = true
        · rw [if_pos hwant]
          left
          refine Oper.wp_mono ?_ (hst.1 hwant)
          rintro a' w' ⟨v, rfl, hb, hkk, hd⟩
          exact enter _ _ _ _ _ (next v w' hb (fun h => absurd hic h) (fun _ => hkk) hd)
        · rw [if_neg hwant]
          have hst2 := hst.2 (by simpa using hwant)
          exact enter _ _ _ _ _ (next undef w (rsub _ _ (rrefl w)) (fun h => absurd hic h) (fun _ => hst2.1) hst2.2)
      · have hst := stepsBut_get steps (i := i) (o := o) hik hic (by simpa using ho) a w Q hI.R hfacts
        by_cases hwant : flowWanted (slotAt ops) o (fun t => a.tmps.getD t undef) = true
        · rw [if_pos hwant]
          left
          refine Oper.wp_mono ?_ (hst.1 hwant)
          rintro a' w' ⟨v, rfl, hb, hd⟩
          exact enter _ _ _ _ _ (next v w' (rsub _ _ hb) (fun _ hlc => jmono _ _ hb (hI.jc hlc)) (fun h => kmono _ _ hb (hI.kc (h.resolve_left hic))) hd)
        · rw [if_neg hwant]
          exact enter _ _ _ _ _ (next undef w (rsub _ _ (rrefl w)) (fun _ hlc => hI.jc hlc) (fun h => hI.kc (h.resolve_left hic)) (hst.2 (by simpa using hwant)))
  · intro l a w hr hI
    rcases hI with ⟨m, hkm, hmn, hls, hlm, hrun⟩ | ⟨lo, hi', hI, j0, hj0, hl0⟩
    · have hm' : m = ops.size := by
        rcases Nat.lt_or_ge m ops.size with h | h
        · exfalso
          refine hmin hls ⟨m, h, ?_⟩ hr
          have := hlm m h
          cases hb : l.getD m true
          · rfl
          · have := this.1 hb
            omega
        · omega
      subst hm'
      simpa [runFrom] using hrun
    · exact absurd hr (hmin hI.lsize ⟨j0, by omega, hl0⟩)


theorem ivl_of {P : Program} {R : World → World → Prop} {W : World} {F : Tmp → World → Value → Prop} {G : Nat → Option Tmp} : ∀ {k : Nat} {l : List Oper}, FrontSteps P R W F G k l → IvlSteps P R W (fun t _ _ => F t) G k l
  | 0, _, _ => trivial
  | _ + 1, [], _ => trivial
  | _ + 1, _ :: _, h => ⟨fun a w Q hR hf => h.1 a w Q hR fun t ht => by obtain ⟨_, _, h⟩ := hf t ht; exact h, ivl_of h.2⟩
theorem region_front {P : Program} (R : World → World → Prop) (F : Tmp → World → Value → Prop) {ops : Array Oper} {Q : Exit → Act → World → Prop} {id : Nat} {A : Act} {W : World} (hm : P.follows .mixedOrders = true)
    (rdraw : R W { W with drawn := W.drawn + 1 }) (rtrans : ∀ w w', R W w → R w w' → R W w') (rrefl : ∀ w, R w w) (rsize : ∀ w w', R w w' → w.heap.size ≤ w'.heap.size)
    (mono : ∀ t w w' v, R w w' → F t w v → F t w' v)
    (n k : Nat) (hn : A.tmps.size = n) (hok : flowOkN ops k = true) (hroom : flowRoom ops n = true) (hM : aheadOk ops (aheadOf ops) = true) (hT : tailOk ops (aheadOf ops) k = true)
    (L : List Tmp) (hL : flowOutsN ops k L = true) (h0 : ∀ t ∈ L, F t W (A.tmps.getD t undef))
    (steps : FrontSteps P R W F (slotAt ops) k ops.toList)
    (fin : ∀ a w, R W w → a.tmps.size = A.tmps.size → a.defers = A.defers → (∀ i d, i < k → slotAt ops i = some d → F d w (a.tmps.getD d undef)) → (∀ t, (∀ j, j < k → slotAt ops j ≠ some t) → a.tmps.getD t undef = A.tmps.getD t undef) →
      wpList P ops Q (ops.toList.drop k) a w) :
    (Code.region id ops true).wp P Q A W := 
  region_ivl R (fun t _ _ => F t) hm rdraw rtrans rrefl rsize (fun t _ _ w w' v _ _ => mono t w w' v) n k hn hok hroom hM hT L hL h0 (ivl_of steps)
    fun a w _ _ h1 h2 h3 h4 _ _ h5 => fin a w h1 h2 h3 h4 h5

/-- A frame in which the operations' slots hold what u says. -/
def putAll (u : Tmp → Value) : List Oper → Act → Act
  | [], a => a
  | o :: r, a => putAll u r (match o.dst with | some d => a.put (some d) (u d) | none => a)
theorem putAll_size (u : Tmp → Value) : ∀ (l : List Oper) (a : Act), (putAll u l a).tmps.size = a.tmps.size ∧ (putAll u l a).defers = a.defers
  | [], a => ⟨rfl, rfl⟩
  | o :: r, a => by
    rw [putAll]
    have := putAll_size u r (match o.dst with | some d => a.put (some d) (u d) | none => a)
    cases h : o.dst with
    | none => rw [h] at this; exact this
    | some d => rw [h] at this; exact ⟨this.1.trans (put_size _ _ _), this.2⟩
theorem putAll_get (u : Tmp → Value) : ∀ (l : List Oper) (a : Act) (t : Tmp), t < a.tmps.size → (putAll u l a).tmps.getD t undef = if (∃ o ∈ l, o.dst = some t) then u t else a.tmps.getD t undef
  | [], a, t, _ => by simp [putAll]
  | o :: r, a, t, ht => by
    rw [putAll]
    cases h : o.dst with
    | none =>
      rw [putAll_get u r a t ht]
      simp [h]
    | some d =>
      rw [putAll_get u r (a.put (some d) (u d)) t (by rw [put_size]; exact ht)]
      by_cases hr : ∃ o ∈ r, o.dst = some t
      · rw [if_pos hr, if_pos]
        obtain ⟨x, hx, e⟩ := hr
        exact ⟨x, List.mem_cons_of_mem _ hx, e⟩
      · rw [if_neg hr]
        by_cases hd : d = t
        · subst hd
          rw [if_pos ⟨o, List.mem_cons_self, h⟩, put_get _ _ _ ht]
        · rw [put_other _ _ _ _ hd, if_neg]
          rintro ⟨x, hx, e⟩
          rcases List.mem_cons.1 hx with rfl | hx
          · rw [h] at e
            exact hd (Option.some.inj e)
          · exact hr ⟨x, hx, e⟩
theorem putAll_eq {ops : Array Oper} {k : Nat} {A a : Act} (hs : a.tmps.size = A.tmps.size) (hd : a.defers = A.defers) (hk : k ≤ ops.size)
    (ho : ∀ t, (∀ j, j < k → slotAt ops j ≠ some t) → a.tmps.getD t undef = A.tmps.getD t undef) : a = putAll (fun t => a.tmps.getD t undef) (ops.toList.take k) A := by
  have h1 := putAll_size (fun t => a.tmps.getD t undef) (ops.toList.take k) A
  have h2 : ∀ t, t < A.tmps.size → a.tmps.getD t undef = (putAll (fun t => a.tmps.getD t undef) (ops.toList.take k) A).tmps.getD t undef := by
    intro t ht
    rw [putAll_get _ _ _ _ ht]
    by_cases hn : ∃ o ∈ ops.toList.take k, o.dst = some t
    · rw [if_pos hn]
    · rw [if_neg hn]
      refine ho t fun j hj e => hn ?_
      have hj' : j < ops.size := by omega
      refine ⟨ops[j], ?_, ?_⟩
      · have hl : j < (ops.toList.take k).length := by simp; omega
        have : (ops.toList.take k)[j] = ops[j] := by simp
        rw [← this]
        exact List.getElem_mem hl
      · unfold slotAt at e
        rw [Array.getElem?_eq_getElem hj'] at e
        exact e
  generalize putAll (fun t => a.tmps.getD t undef) (ops.toList.take k) A = b at h1 h2 ⊢
  obtain ⟨T, D⟩ := a
  obtain ⟨T', D'⟩ := b
  simp only at h1 h2 hs hd
  obtain rfl : D = D' := hd.trans h1.2.symm
  congr 1
  refine Array.ext (hs.trans h1.1.symm) fun i hi hi' => ?_
  have := h2 i (by omega)
  simpa [Array.getD_eq_getD_getElem?, hi, hi'] using this

/-- The same, with the frame written out. -/
theorem region_put {P : Program} (R : World → World → Prop) (F : Tmp → World → Value → Prop) {ops : Array Oper} {Q : Exit → Act → World → Prop} {id : Nat} {A : Act} {W : World} (hm : P.follows .mixedOrders = true)
    (rdraw : R W { W with drawn := W.drawn + 1 }) (rtrans : ∀ w w', R W w → R w w' → R W w') (rrefl : ∀ w, R w w) (rsize : ∀ w w', R w w' → w.heap.size ≤ w'.heap.size)
    (mono : ∀ t w w' v, R w w' → F t w v → F t w' v)
    (n k : Nat) (hn : A.tmps.size = n) (hok : flowOkN ops k = true) (hroom : flowRoom ops n = true) (hM : aheadOk ops (aheadOf ops) = true) (hT : tailOk ops (aheadOf ops) k = true)
    (L : List Tmp) (hL : flowOutsN ops k L = true) (h0 : ∀ t ∈ L, F t W (A.tmps.getD t undef))
    (steps : FrontSteps P R W F (slotAt ops) k ops.toList)
    (fin : ∀ (u : Tmp → Value) w, R W w → (∀ i d, i < k → slotAt ops i = some d → F d w (u d)) → wpList P ops Q (ops.toList.drop k) (putAll u (ops.toList.take k) A) w) :
    (Code.region id ops true).wp P Q A W := by
  refine region_front R F hm rdraw rtrans rrefl rsize mono n k hn hok hroom hM hT L hL h0 steps fun a w hr hs hd hf ho => ?_
  have hk : k ≤ ops.size := by
    unfold tailOk at hT
    simp only [Bool.and_eq_true, decide_eq_true_eq] at hT
    exact hT.1
  rw [putAll_eq hs hd hk ho]
  exact fin _ w hr hf

theorem region_ivlPut {P : Program} (R : World → World → Prop) (F : Tmp → Nat → Nat → World → Value → Prop) {ops : Array Oper} {Q : Exit → Act → World → Prop} {id : Nat} {A : Act} {W : World} (hm : P.follows .mixedOrders = true)
    (rdraw : R W { W with drawn := W.drawn + 1 }) (rtrans : ∀ w w', R W w → R w w' → R W w') (rrefl : ∀ w, R w w) (rsize : ∀ w w', R w w' → w.heap.size ≤ w'.heap.size)
    (mono : ∀ t lo hi w w' v, W.heap.size ≤ lo → hi ≤ w.heap.size → R w w' → F t lo hi w v → F t lo hi w' v)
    (n k : Nat) (hn : A.tmps.size = n) (hok : flowOkN ops k = true) (hroom : flowRoom ops n = true) (hM : aheadOk ops (aheadOf ops) = true) (hT : tailOk ops (aheadOf ops) k = true)
    (L : List Tmp) (hL : flowOutsN ops k L = true) (h0 : ∀ t ∈ L, F t W.heap.size W.heap.size W (A.tmps.getD t undef))
    (steps : IvlSteps P R W F (slotAt ops) k ops.toList)
    (fin : ∀ (u : Tmp → Value) w (lo hi : Tmp → Nat), R W w → (∀ i d, i < k → slotAt ops i = some d → F d (lo d) (hi d) w (u d)) → (∀ t, W.heap.size ≤ lo t ∧ lo t ≤ hi t ∧ hi t ≤ w.heap.size) →
      (∀ i j s t, i < k → j < k → i ≠ j → slotAt ops i = some s → slotAt ops j = some t → hi s ≤ lo t ∨ hi t ≤ lo s) → wpList P ops Q (ops.toList.drop k) (putAll u (ops.toList.take k) A) w) :
    (Code.region id ops true).wp P Q A W := by
  refine region_ivl R F hm rdraw rtrans rrefl rsize mono n k hn hok hroom hM hT L hL h0 steps fun a w lo hi hr hs hd hf h1 h2 ho => ?_
  have hk : k ≤ ops.size := by
    unfold tailOk at hT
    simp only [Bool.and_eq_true, decide_eq_true_eq] at hT
    exact hT.1
  rw [putAll_eq hs hd hk ho]
  exact fin _ w lo hi hr hf h1 h2

theorem region_phasePut {P : Program} (R R' : World → World → Prop) (J K : World → Prop) (c : Nat) (F : Tmp → Nat → Nat → World → Value → Prop) {ops : Array Oper} {Q : Exit → Act → World → Prop} {id : Nat} {A : Act} {W : World} (hm : P.follows .mixedOrders = true)
    (rdraw : R W { W with drawn := W.drawn + 1 }) (rtrans : ∀ w w', R W w → R w w' → R W w') (rrefl : ∀ w, R' w w) (rsub : ∀ w w', R' w w' → R w w') (hJ : J { W with drawn := W.drawn + 1 }) (jmono : ∀ w w', R' w w' → J w → J w') (kmono : ∀ w w', R' w w' → K w → K w') (rsize : ∀ w w', R w w' → w.heap.size ≤ w'.heap.size)
    (mono : ∀ t lo hi w w' v, W.heap.size ≤ lo → hi ≤ w.heap.size → R w w' → F t lo hi w v → F t lo hi w' v)
    (n k : Nat) (hn : A.tmps.size = n) (hok : flowOkN ops k = true) (hroom : flowRoom ops n = true) (hM : aheadOk ops (aheadOf ops) = true) (hT : tailOk ops (aheadOf ops) k = true)
    (L : List Tmp) (hL : flowOutsN ops k L = true) (h0 : ∀ t ∈ L, F t W.heap.size W.heap.size W (A.tmps.getD t undef))
    (hc : c < k) (steps : StepsBut P R R' J K W F (slotAt ops) c k ops.toList)
    (fin : ∀ (u : Tmp → Value) w (lo hi : Tmp → Nat), R W w → (∀ i d, i < k → slotAt ops i = some d → F d (lo d) (hi d) w (u d)) → (∀ t, W.heap.size ≤ lo t ∧ lo t ≤ hi t ∧ hi t ≤ w.heap.size) →
      (∀ i j s t, i < k → j < k → i ≠ j → slotAt ops i = some s → slotAt ops j = some t → hi s ≤ lo t ∨ hi t ≤ lo s) → K w → wpList P ops Q (ops.toList.drop k) (putAll u (ops.toList.take k) A) w) :
    (Code.region id ops true).wp P Q A W := by
  refine region_phase R R' J K c F hm rdraw rtrans rrefl rsub hJ jmono kmono rsize mono n k hn hok hroom hM hT L hL h0 hc steps fun a w lo hi hr hs hd hf h1 h2 h3 ho => ?_
  have hk : k ≤ ops.size := by
    unfold tailOk at hT
    simp only [Bool.and_eq_true, decide_eq_true_eq] at hT
    exact hT.1
  rw [putAll_eq hs hd hk ho]
  exact fin _ w lo hi hr hf h1 h2 h3

/-- What a slot holds: a value that is known, or something that stays true as the world goes on. -/
inductive Kf (R : World → World → Prop) where
  | val (v : Value)
  | fact (p : World → Value → Prop) (h : ∀ w w' v, R w w' → p w v → p w' v)
  | any
def Kf.holds {R : World → World → Prop} : Kf R → World → Value → Prop
  | .val u, _, v => v = u
  | .fact p _, w, v => p w v
  | .any, _, _ => True
theorem Kf.mono {R : World → World → Prop} (κ : Kf R) (w w' : World) (v : Value) (h : R w w') (k : κ.holds w v) : κ.holds w' v := by
  cases κ with
  | val u => exact k
  | fact p hp => exact hp w w' v h k
  | any => trivial

section
variable {P : Program} {R : World → World → Prop} {W : World} {κ : Tmp → Kf R} {G : Nat → Option Tmp} {d : Tmp} {op : Op} {ty : TypeId} {pos : String} {es : Array Edge}
/-- An operation that answers a known value. -/
theorem front_val {y : Value} (hd : κ d = .val y) (rrefl : ∀ w, R w w)
    (h : ∀ (a : Act) (w : World), R W w → (∀ t, .tmp t ∈ op.operands.toList → (κ t).holds w (a.tmps.getD t undef)) → Sem.run P (execOp a.eval ⟨some d, op, ty, pos, es, none⟩) w = .ok (.value y) w) :
    FrontStep P R W (fun t => (κ t).holds) G ⟨some d, op, ty, pos, es, none⟩ := by
  intro a w Q hR hf
  refine ⟨fun _ => ?_, fun hw => by simp [flowWanted] at hw⟩
  unfold Oper.wp
  rw [h a w hR fun t ht => hf t (.inl ht)]
  simp only [Oper.upon_value]
  exact ⟨y, rfl, rrefl w, fun d' hd' => by cases hd'; rw [hd]; rfl⟩
/-- An operation of which we say what comes of it. -/
theorem front_wp {p : World → Value → Prop} {hp : ∀ w w' v, R w w' → p w v → p w' v} (hd : κ d = .fact p hp)
    (h : ∀ (a : Act) (w : World) (Q : Exit → Act → World → Prop), R W w → (∀ t, .tmp t ∈ op.operands.toList → (κ t).holds w (a.tmps.getD t undef)) → Oper.wp P ⟨some d, op, ty, pos, es, none⟩ a w (fun a' w' => ∃ v, a' = a.put (some d) v ∧ R w w' ∧ p w' v) Q) :
    FrontStep P R W (fun t => (κ t).holds) G ⟨some d, op, ty, pos, es, none⟩ := by
  intro a w Q hR hf
  refine ⟨fun _ => Oper.wp_mono ?_ (h a w Q hR fun t ht => hf t (.inl ht)), fun hw => by simp [flowWanted] at hw⟩
  rintro a' w' ⟨v, e, hr, hv⟩
  exact ⟨v, e, hr, fun d' hd' => by cases hd'; rw [hd]; exact hv⟩
end

section
variable {P : Program} {R : World → World → Prop} {W : World} {κ : Tmp → Kf R} {G : Nat → Option Tmp} {d s : Tmp} {op : Op} {ty : TypeId} {pos : String} {es : Array Edge} {j : Nat} {b : Bool}
theorem guarded_on (hG : G j = some s) (hs : κ s = .val (.bool b)) {a : Act} {w : World} (hf : ∀ t, (.tmp t ∈ op.operands.toList ∨ ∃ g, (some (j, b) : Option (Nat × Bool)) = some g ∧ G g.1 = some t) → (κ t).holds w (a.tmps.getD t undef)) :
    flowWanted G ⟨some d, op, ty, pos, es, some (j, b)⟩ (fun t => a.tmps.getD t undef) = true := by
  have h := hf s (.inr ⟨(j, b), rfl, hG⟩)
  rw [hs] at h
  have h' : a.tmps.getD s undef = .bool b := h
  unfold flowWanted
  simp only [hG, h', beq_self_eq_true]
theorem front_valG {y : Value} (hG : G j = some s) (hs : κ s = .val (.bool b)) (hd : κ d = .val y) (rrefl : ∀ w, R w w)
    (h : ∀ (a : Act) (w : World), R W w → (∀ t, .tmp t ∈ op.operands.toList → (κ t).holds w (a.tmps.getD t undef)) → Sem.run P (execOp a.eval ⟨some d, op, ty, pos, es, some (j, b)⟩) w = .ok (.value y) w) :
    FrontStep P R W (fun t => (κ t).holds) G ⟨some d, op, ty, pos, es, some (j, b)⟩ := by
  intro a w Q hR hf
  have hon := guarded_on (d := d) (ty := ty) (pos := pos) (es := es) hG hs hf
  refine ⟨fun _ => ?_, fun hw => by rw [hon] at hw; cases hw⟩
  unfold Oper.wp
  rw [h a w hR fun t ht => hf t (.inl ht)]
  simp only [Oper.upon_value]
  exact ⟨y, rfl, rrefl w, fun d' hd' => by cases hd'; rw [hd]; rfl⟩
theorem front_wpG {κd : Kf R} (hG : G j = some s) (hs : κ s = .val (.bool b)) (hd : κ d = κd)
    (h : ∀ (a : Act) (w : World) (Q : Exit → Act → World → Prop), R W w → (∀ t, .tmp t ∈ op.operands.toList → (κ t).holds w (a.tmps.getD t undef)) → Oper.wp P ⟨some d, op, ty, pos, es, some (j, b)⟩ a w (fun a' w' => ∃ v, a' = a.put (some d) v ∧ R w w' ∧ κd.holds w' v) Q) :
    FrontStep P R W (fun t => (κ t).holds) G ⟨some d, op, ty, pos, es, some (j, b)⟩ := by
  intro a w Q hR hf
  have hon := guarded_on (d := d) (ty := ty) (pos := pos) (es := es) hG hs hf
  refine ⟨fun _ => Oper.wp_mono ?_ (h a w Q hR fun t ht => hf t (.inl ht)), fun hw => by rw [hon] at hw; cases hw⟩
  rintro a' w' ⟨v, e, hr, hv⟩
  exact ⟨v, e, hr, fun d' hd' => by cases hd'; rw [hd]; exact hv⟩
theorem front_wpK {κd : Kf R} (hd : κ d = κd)
    (h : ∀ (a : Act) (w : World) (Q : Exit → Act → World → Prop), R W w → (∀ t, .tmp t ∈ op.operands.toList → (κ t).holds w (a.tmps.getD t undef)) → Oper.wp P ⟨some d, op, ty, pos, es, none⟩ a w (fun a' w' => ∃ v, a' = a.put (some d) v ∧ R w w' ∧ κd.holds w' v) Q) :
    FrontStep P R W (fun t => (κ t).holds) G ⟨some d, op, ty, pos, es, none⟩ := by
  intro a w Q hR hf
  refine ⟨fun _ => Oper.wp_mono ?_ (h a w Q hR fun t ht => hf t (.inl ht)), fun hw => by simp [flowWanted] at hw⟩
  rintro a' w' ⟨v, e, hr, hv⟩
  exact ⟨v, e, hr, fun d' hd' => by cases hd'; rw [hd]; exact hv⟩
end
/-- The same with the blocks that the operation made: from lo on, below hi. B: the region's first new block. -/
inductive Ki (R : World → World → Prop) (B : Nat) where
  | val (v : Value)
  | fact (p : Nat → Nat → World → Value → Prop) (h : ∀ lo hi w w' v, B ≤ lo → hi ≤ w.heap.size → R w w' → p lo hi w v → p lo hi w' v)
  | any
def Ki.holds {R : World → World → Prop} {B : Nat} : Ki R B → Nat → Nat → World → Value → Prop
  | .val u, _, _, _, v => v = u
  | .fact p _, lo, hi, w, v => p lo hi w v
  | .any, _, _, _, _ => True
theorem Ki.mono {R : World → World → Prop} {B : Nat} (κ : Ki R B) (lo hi : Nat) (w w' : World) (v : Value) (hB : B ≤ lo) (hh : hi ≤ w.heap.size) (h : R w w') (k : κ.holds lo hi w v) : κ.holds lo hi w' v := by
  cases κ with
  | val u => exact k
  | fact p hp => exact hp lo hi w w' v hB hh h k
  | any => trivial

section
variable {P : Program} {R : World → World → Prop} {B : Nat} {W : World} {κ : Tmp → Ki R B} {G : Nat → Option Tmp} {d : Tmp} {op : Op} {ty : TypeId} {pos : String} {es : Array Edge}
theorem ivl_val {y : Value} (hd : κ d = .val y) (rrefl : ∀ w, R w w)
    (h : ∀ (a : Act) (w : World), R W w → (∀ t, .tmp t ∈ op.operands.toList → ∃ lo hi, (κ t).holds lo hi w (a.tmps.getD t undef)) → Sem.run P (execOp a.eval ⟨some d, op, ty, pos, es, none⟩) w = .ok (.value y) w) :
    IvlStep P R W (fun t => (κ t).holds) G ⟨some d, op, ty, pos, es, none⟩ := by
  intro a w Q hR hf
  refine ⟨fun _ => ?_, fun hw => by simp [flowWanted] at hw⟩
  unfold Oper.wp
  rw [h a w hR fun t ht => hf t (.inl ht)]
  simp only [Oper.upon_value]
  exact ⟨y, rfl, rrefl w, fun d' hd' => by cases hd'; rw [hd]; rfl⟩
theorem ivl_wp {p : Nat → Nat → World → Value → Prop} {hp : ∀ lo hi w w' v, B ≤ lo → hi ≤ w.heap.size → R w w' → p lo hi w v → p lo hi w' v} (hd : κ d = .fact p hp)
    (h : ∀ (a : Act) (w : World) (Q : Exit → Act → World → Prop), R W w → (∀ t, .tmp t ∈ op.operands.toList → ∃ lo hi, (κ t).holds lo hi w (a.tmps.getD t undef)) → Oper.wp P ⟨some d, op, ty, pos, es, none⟩ a w (fun a' w' => ∃ v, a' = a.put (some d) v ∧ R w w' ∧ p w.heap.size w'.heap.size w' v) Q) :
    IvlStep P R W (fun t => (κ t).holds) G ⟨some d, op, ty, pos, es, none⟩ := by
  intro a w Q hR hf
  refine ⟨fun _ => Oper.wp_mono ?_ (h a w Q hR fun t ht => hf t (.inl ht)), fun hw => by simp [flowWanted] at hw⟩
  rintro a' w' ⟨v, e, hr, hv⟩
  exact ⟨v, e, hr, fun d' hd' => by cases hd'; rw [hd]; exact hv⟩
theorem ki_val {t : Tmp} {x y : Value} {w : World} (hd : κ t = .val y) (h : ∃ lo hi, (κ t).holds lo hi w x) : x = y := by
  obtain ⟨lo, hi, h⟩ := h
  rw [hd] at h
  exact h
end

section
variable {P : Program} {R R' : World → World → Prop} {J K : World → Prop} {B : Nat} {W : World} {κ : Tmp → Ki R B} {G : Nat → Option Tmp} {d : Tmp} {op : Op} {ty : TypeId} {pos : String} {es : Array Edge}
theorem ph_val {y : Value} (hd : κ d = .val y) (rrefl : ∀ w, R' w w)
    (h : ∀ (a : Act) (w : World), R W w → (∀ t, .tmp t ∈ op.operands.toList → ∃ lo hi, (κ t).holds lo hi w (a.tmps.getD t undef)) → Sem.run P (execOp a.eval ⟨some d, op, ty, pos, es, none⟩) w = .ok (.value y) w) :
    PhaseStep P R R' W (fun t => (κ t).holds) G ⟨some d, op, ty, pos, es, none⟩ := by
  intro a w Q hR hf
  refine ⟨fun _ => ?_, fun hw => by simp [flowWanted] at hw⟩
  unfold Oper.wp
  rw [h a w hR fun t ht => hf t (.inl ht)]
  simp only [Oper.upon_value]
  exact ⟨y, rfl, rrefl w, fun d' hd' => by cases hd'; rw [hd]; rfl⟩
theorem ph_wp {p : Nat → Nat → World → Value → Prop} {hp : ∀ lo hi w w' v, B ≤ lo → hi ≤ w.heap.size → R w w' → p lo hi w v → p lo hi w' v} (hd : κ d = .fact p hp)
    (h : ∀ (a : Act) (w : World) (Q : Exit → Act → World → Prop), R W w → (∀ t, .tmp t ∈ op.operands.toList → ∃ lo hi, (κ t).holds lo hi w (a.tmps.getD t undef)) → Oper.wp P ⟨some d, op, ty, pos, es, none⟩ a w (fun a' w' => ∃ v, a' = a.put (some d) v ∧ R' w w' ∧ p w.heap.size w'.heap.size w' v) Q) :
    PhaseStep P R R' W (fun t => (κ t).holds) G ⟨some d, op, ty, pos, es, none⟩ := by
  intro a w Q hR hf
  refine ⟨fun _ => Oper.wp_mono ?_ (h a w Q hR fun t ht => hf t (.inl ht)), fun hw => by simp [flowWanted] at hw⟩
  rintro a' w' ⟨v, e, hr, hv⟩
  exact ⟨v, e, hr, fun d' hd' => by cases hd'; rw [hd]; exact hv⟩
theorem ph_wpC {p : Nat → Nat → World → Value → Prop} {hp : ∀ lo hi w w' v, B ≤ lo → hi ≤ w.heap.size → R w w' → p lo hi w v → p lo hi w' v} (hd : κ d = .fact p hp)
    (h : ∀ (a : Act) (w : World) (Q : Exit → Act → World → Prop), R W w → J w → (∀ t, .tmp t ∈ op.operands.toList → ∃ lo hi, (κ t).holds lo hi w (a.tmps.getD t undef)) → Oper.wp P ⟨some d, op, ty, pos, es, none⟩ a w (fun a' w' => ∃ v, a' = a.put (some d) v ∧ R w w' ∧ K w' ∧ p w.heap.size w'.heap.size w' v) Q) :
    PhaseStepC P R J K W (fun t => (κ t).holds) G ⟨some d, op, ty, pos, es, none⟩ := by
  intro a w Q hR hJ hf
  refine ⟨fun _ => Oper.wp_mono ?_ (h a w Q hR hJ fun t ht => hf t (.inl ht)), fun hw => by simp [flowWanted] at hw⟩
  rintro a' w' ⟨v, e, hr, hk, hv⟩
  exact ⟨v, e, hr, hk, fun d' hd' => by cases hd'; rw [hd]; exact hv⟩
end
end Go.Proofs.Ytkobfnpkebgmjaa
