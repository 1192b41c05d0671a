/-
  Matching of types as a pure function: what it finds makes the second type of the first one, and it finds whatever a substitution has put in. No condition.
-/
import Derived.Test.YtkobfnpkebgmjaaTpSame
namespace Go.Proofs.Ytkobfnpkebgmjaa
open Go.RowKit Go.Deep

/-- A variable is met with a type; a list of what stands for each variable. -/
noncomputable def mv (v : Int) (x : Tp) (F : List (Option Tp)) : Bool × List (Option Tp) :=
  if v < 0 ∨ 100 < v then (false, F) else
    match (F ++ List.replicate (v.toNat + 1 - F.length) none)[v.toNat]? with
    | some (some y) => (tpEq y x, F ++ List.replicate (v.toNat + 1 - F.length) none)
    | _ => (true, (F ++ List.replicate (v.toNat + 1 - F.length) none).set v.toNat (some x))
mutual
noncomputable def mt : Tp → Tp → List (Option Tp) → Bool × List (Option Tp)
  | .mk k u us, .mk k' u' us', F => if k = 4 then mv u (.mk k' u' us') F else if k = k' ∧ u = u' ∧ us.length = us'.length then mtL us us' F else (false, F)
noncomputable def mtL : List Tp → List Tp → List (Option Tp) → Bool × List (Option Tp)
  | t :: ts, x :: xs, F => if (mt t x F).1 = true then mtL ts xs (mt t x F).2 else (false, (mt t x F).2)
  | _, _, F => (true, F)
end
theorem mtL_drop {us xs : List Tp} {i : Nat} (h : i < us.length) (h' : i < xs.length) (F : List (Option Tp)) : mtL (us.drop i) (xs.drop i) F = if (mt us[i] xs[i] F).1 = true then mtL (us.drop (i + 1)) (xs.drop (i + 1)) (mt us[i] xs[i] F).2 else (false, (mt us[i] xs[i] F).2) := by
  rw [List.drop_eq_getElem_cons h, List.drop_eq_getElem_cons h', mtL]

/-- What is known goes on being known. -/
def ExtF (F G : List (Option Tp)) : Prop := ∀ (i : Nat) (x : Tp), F[i]? = some (some x) → G[i]? = some (some x)
theorem ExtF.refl (F : List (Option Tp)) : ExtF F F := fun _ _ h => h
theorem ExtF.trans {F G H : List (Option Tp)} (h : ExtF F G) (k : ExtF G H) : ExtF F H := fun i x e => k i x (h i x e)
theorem ext_pad (F : List (Option Tp)) (m : Nat) : ExtF F (F ++ List.replicate m none) := fun i x h => by
  have hi : i < F.length := by
    rcases Nat.lt_or_ge i F.length with h' | h'
    · exact h'
    · rw [List.getElem?_eq_none h'] at h; cases h
  rw [List.getElem?_append_left hi]
  exact h
theorem mv_ext (v : Int) (x : Tp) (F : List (Option Tp)) : ExtF F (mv v x F).2 := by
  unfold mv
  split
  · exact ExtF.refl F
  · split
    · exact ext_pad F _
    · rename_i hn
      have hs : ExtF (F ++ List.replicate (v.toNat + 1 - F.length) none) ((F ++ List.replicate (v.toNat + 1 - F.length) none).set v.toNat (some x)) := fun i y h => by
        by_cases e : i = v.toNat
        · subst e
          exact absurd h (hn y)
        · rw [List.getElem?_set_ne (fun h => e h.symm)]
          exact h
      exact (ext_pad F _).trans hs
mutual
theorem mt_ext : ∀ (t x : Tp) (F : List (Option Tp)), ExtF F (mt t x F).2
  | .mk k u us, .mk k' u' us', F => by
    rw [mt]
    split
    · exact mv_ext _ _ _
    · split
      · exact mtL_ext us us' F
      · exact ExtF.refl F
theorem mtL_ext : ∀ (ts xs : List Tp) (F : List (Option Tp)), ExtF F (mtL ts xs F).2
  | [], _, F => by rw [mtL]; exact ExtF.refl F; simp
  | _ :: _, [], F => by rw [mtL]; exact ExtF.refl F; simp
  | t :: ts, x :: xs, F => by
    rw [mtL]
    split
    · exact (mt_ext t x F).trans (mtL_ext ts xs _)
    · exact mt_ext t x F
end
/-- Each variable's type, unit for those that were not met. -/
def got (F : List (Option Tp)) : List Tp := F.map fun o => o.getD (.mk 3 0 [])
theorem mv_sound {v : Int} {x : Tp} {F G : List (Option Tp)} (h : mv v x F = (true, G)) : 0 ≤ v ∧ v ≤ 100 ∧ G[v.toNat]? = some (some x) := by
  unfold mv at h
  split at h
  · cases h
  · rename_i hv
    refine ⟨by omega, by omega, ?_⟩
    split at h
    · rename_i y hy
      simp only [Prod.mk.injEq] at h
      obtain ⟨h1, rfl⟩ := h
      rw [hy, tpEq_true.1 h1]
    · simp only [Prod.mk.injEq] at h
      obtain ⟨_, rfl⟩ := h
      rw [List.getElem?_set_self]
      rw [List.length_append, List.length_replicate]
      omega
theorem hit_got {H : List (Option Tp)} {v : Int} {x : Tp} (h0 : 0 ≤ v) (h : H[v.toNat]? = some (some x)) : hit (got H) 4 v = some x := by
  unfold hit got
  rw [if_pos ⟨rfl, h0⟩, List.getElem?_map, h]
  rfl
theorem hit_node {ls : List Tp} {k u : Int} (h : k ≠ 4) : hit ls k u = none := by
  unfold hit
  rw [if_neg (fun e => h e.1)]
mutual
theorem mt_sound : ∀ (t x : Tp) (F G H : List (Option Tp)), mt t x F = (true, G) → ExtF G H → sub (got H) t = x
  | .mk k u us, .mk k' u' us', F, G, H, h, hH => by
    rw [mt] at h
    rw [sub]
    split at h
    · rename_i hk
      subst hk
      obtain ⟨h0, _, h2⟩ := mv_sound h
      rw [hit_got h0 (hH _ _ h2)]
      rfl
    · rename_i hk
      rw [hit_node hk]
      split at h
      · rename_i he
        obtain ⟨rfl, rfl, hl⟩ := he
        show Tp.mk k u (subL (got H) us) = _
        rw [mtL_sound us us' F G H hl h hH]
      · cases h
theorem mtL_sound : ∀ (ts xs : List Tp) (F G H : List (Option Tp)), ts.length = xs.length → mtL ts xs F = (true, G) → ExtF G H → subL (got H) ts = xs
  | [], [], _, _, _, _, _, _ => rfl
  | [], _ :: _, _, _, _, hl, _, _ => by simp at hl
  | _ :: _, [], _, _, _, hl, _, _ => by simp at hl
  | t :: ts, x :: xs, F, G, H, hl, h, hH => by
    rw [mtL] at h
    split at h
    · rename_i hb
      have e1 : mt t x F = (true, (mt t x F).2) := by rw [← hb]
      have hx : ExtF (mt t x F).2 H := by
        have := mtL_ext ts xs (mt t x F).2
        rw [h] at this
        exact this.trans hH
      rw [subL, mt_sound t x F _ H e1 hx, mtL_sound ts xs _ G H (by simpa using hl) h hH]
    · cases h
end

mutual
/-- All variables are from 0 to below n and have no arguments. -/
def VarsT (n : Int) : Tp → Prop
  | .mk k u us => (k = 4 → 0 ≤ u ∧ u < n ∧ us = []) ∧ (k ≠ 4 → VarsL n us)
def VarsL (n : Int) : List Tp → Prop
  | [] => True
  | t :: ts => VarsT n t ∧ VarsL n ts
end
/-- What is known agrees with the list. -/
def ConF (ls : List Tp) (F : List (Option Tp)) : Prop := ∀ (i : Nat) (x : Tp), F[i]? = some (some x) → ls[i]? = some x
theorem con_nil (ls : List Tp) : ConF ls [] := fun i x h => by simp at h
theorem con_pad {ls : List Tp} {F : List (Option Tp)} (h : ConF ls F) (m : Nat) : ConF ls (F ++ List.replicate m none) := fun i x e => by
  by_cases hi : i < F.length
  · rw [List.getElem?_append_left hi] at e
    exact h i x e
  · rw [List.getElem?_append_right (by omega), List.getElem?_replicate] at e
    split at e <;> simp at e
theorem mv_complete {ls : List Tp} {v : Int} {x : Tp} {F : List (Option Tp)} (h0 : 0 ≤ v) (h1 : v ≤ 100) (hx : ls[v.toNat]? = some x) (hF : ConF ls F) : (mv v x F).1 = true ∧ ConF ls (mv v x F).2 := by
  unfold mv
  rw [if_neg (by omega)]
  split
  · rename_i y hy
    have := con_pad hF _ _ _ hy
    rw [hx] at this
    exact ⟨tpEq_true.2 (Option.some.inj this).symm, con_pad hF _⟩
  · refine ⟨rfl, fun i y h => ?_⟩
    simp only at h
    by_cases e : i = v.toNat
    · subst e
      rw [List.getElem?_set_self (by rw [List.length_append, List.length_replicate]; omega)] at h
      rw [hx]
      simpa using h
    · rw [List.getElem?_set_ne (fun h => e h.symm)] at h
      exact con_pad hF _ _ _ h
mutual
theorem mt_complete (ls : List Tp) (hl : ls.length ≤ 100) : ∀ (t : Tp) (F : List (Option Tp)), VarsT ls.length t → ConF ls F → (mt t (sub ls t) F).1 = true ∧ ConF ls (mt t (sub ls t) F).2
  | .mk k u us, F, hv, hF => by
    unfold VarsT at hv
    by_cases hk : k = 4
    · subst hk
      obtain ⟨h0, h1, rfl⟩ := hv.1 rfl
      have hx : ls[u.toNat]? = some (ls[u.toNat]'(by omega)) := List.getElem?_eq_getElem (by omega)
      have hs : sub ls (.mk 4 u []) = ls[u.toNat]'(by omega) := by
        rw [sub]
        unfold hit
        rw [if_pos ⟨rfl, h0⟩, hx]
        rfl
      rw [hs]
      obtain ⟨y, hy⟩ : ∃ y, ls[u.toNat]'(by omega) = y := ⟨_, rfl⟩
      rw [hy] at hx ⊢
      obtain ⟨k', u', us'⟩ := y
      rw [mt, if_pos rfl]
      exact mv_complete h0 (by omega) hx hF
    · have hs : sub ls (.mk k u us) = .mk k u (subL ls us) := by
        rw [sub, hit_node hk]
        rfl
      rw [hs, mt, if_neg hk, if_pos ⟨rfl, rfl, (subL_length ls us).symm⟩]
      exact mtL_complete ls hl us F (hv.2 hk) hF
theorem mtL_complete (ls : List Tp) (hl : ls.length ≤ 100) : ∀ (ts : List Tp) (F : List (Option Tp)), VarsL ls.length ts → ConF ls F → (mtL ts (subL ls ts) F).1 = true ∧ ConF ls (mtL ts (subL ls ts) F).2
  | [], F, _, hF => by rw [subL, mtL]; exact ⟨rfl, hF⟩; simp
  | t :: ts, F, hv, hF => by
    unfold VarsL at hv
    have h1 := mt_complete ls hl t F hv.1 hF
    rw [subL, mtL, if_pos h1.1]
    exact mtL_complete ls hl ts _ hv.2 h1.2
end
theorem mv_length (v : Int) (x : Tp) (F : List (Option Tp)) : F.length ≤ 101 → (mv v x F).2.length ≤ 101 := fun h => by
  unfold mv
  split
  · exact h
  · split
    · rw [List.length_append, List.length_replicate]; omega
    · rw [List.length_set, List.length_append, List.length_replicate]; omega
end Go.Proofs.Ytkobfnpkebgmjaa
