/-
  Plain mathematics of a split: where its tokens stand, what an error says of the text before it, what the tokens' texts in a row have. No conditions but those of each lemma.
-/
import Derived.Test.YtdlcmnfjhnfjcaaDoorT1
namespace Go.Proofs.YtdlcmnfjhnfjcaaDoor
namespace Tok

theorem skip_twice (l : List UInt8) : skip false (skip false l) = skip false l := by
  cases h : skip false l with
  | nil => rfl
  | cons b r =>
    obtain ⟨h1, h2, h3⟩ := skip_head l false b r h
    exact skip_of_head b r h1 h2 h3

theorem lex_err {l : List UInt8} {e : Nat} (h : lex l = .err e) : e = 2 ∨ e = 9 := by
  cases l with
  | nil => injection h with h; omega
  | cons b r =>
    rw [lex] at h
    unfold word number at h
    repeat' split at h
    all_goals first | (injection h with h; omega) | (cases h; done) | skip
    all_goals
      cases ho : signOf (b :: r) with
      | none => rw [ho] at h; injection h with h; omega
      | some x => rw [ho] at h; cases h

theorem tw_take {p : UInt8 → Bool} : ∀ (l : List UInt8) (m : Nat), (l.takeWhile p).length ≤ m → (l.take m).takeWhile p = l.takeWhile p
  | [], m, _ => by simp
  | b :: r, 0, h => by
    cases hb : p b
    · simp [List.takeWhile_cons_of_neg, hb]
    · rw [List.takeWhile_cons_of_pos hb] at h; simp at h
  | b :: r, m + 1, h => by
    rw [List.take_succ_cons]
    cases hb : p b
    · rw [List.takeWhile_cons_of_neg (by simp [hb]), List.takeWhile_cons_of_neg (by simp [hb])]
    · rw [List.takeWhile_cons_of_pos hb] at h
      rw [List.takeWhile_cons_of_pos hb, List.takeWhile_cons_of_pos hb, tw_take r m (by simpa using h)]
theorem two_take (l : List UInt8) (m : Nat) : two (l.take m) = (decide (2 ≤ m) && two l) := by
  unfold two
  rw [List.length_take, List.take_take]
  by_cases h : 2 ≤ m
  · rw [show min 2 m = 2 by omega, decide_eq_true h, Bool.true_and]
    congr 1
    rw [Bool.eq_iff_iff]; simp; omega
  · rw [decide_eq_false h, decide_eq_false (by omega)]; simp
theorem lex_take {b : UInt8} {r t : List UInt8} {kd m : Nat} (h : lex (b :: r) = .tok kd t) (hm : t.length ≤ m) : lex ((b :: r).take m) = .tok kd t := by
  have h0 := (lex_prefix h).2
  obtain ⟨m, rfl⟩ : ∃ x, m = x + 1 := ⟨m - 1, by omega⟩
  have htk : (b :: r).take (m + 1) = b :: r.take m := List.take_succ_cons
  rw [htk]
  rw [lex] at h ⊢
  rw [← htk]
  split
  · rename_i hb
    rw [if_pos hb] at h
    have ht := word_tok h
    rw [tw_take _ _ (by rw [← ht]; exact hm)]; exact h
  · rename_i hb
    rw [if_neg hb] at h
    split
    · rename_i hb2
      rw [if_pos hb2] at h
      have ht := word_tok h
      rw [tw_take _ _ (by rw [← ht]; exact hm)]; exact h
    · rename_i hb2
      rw [if_neg hb2] at h
      split
      · rename_i hb3
        rw [if_pos hb3] at h
        have ht := number_tok h
        rw [tw_take _ _ (by rw [← ht]; exact hm)]; exact h
      · rename_i hb3
        rw [if_neg hb3] at h
        obtain ⟨hs, rfl⟩ := sign_tok h
        have e : signOf ((b :: r).take (m + 1)) = some t := by
          cases h2 : two (b :: r)
          · rw [htk, sign_one b _ (by rw [← htk, two_take, h2]; simp)]
            rw [sign_one b r h2] at hs
            exact hs
          · rw [sign_two _ h2] at hs
            injection hs with hs
            have hl : 2 ≤ (b :: r).length := by unfold two at h2; simp only [Bool.and_eq_true, decide_eq_true_eq] at h2; exact h2.1
            have ht2 : t.length = 2 := by rw [← hs, List.length_take]; omega
            rw [sign_two _ (by rw [two_take, h2, decide_eq_true (by omega)]; rfl), List.take_take, show min 2 (m + 1) = 2 by omega, hs]
        rw [e]; rfl

/-- The tokens stand in the text, one behind the other, from k on. -/
def Placed (src : List UInt8) : Nat → List T → Prop
  | _, [] => True
  | k, t :: ts => k ≤ t.pos ∧ t.pos + t.text.length ≤ src.length ∧ (src.drop t.pos).take t.text.length = t.text ∧ Placed src (t.pos + t.text.length) ts
/-- A token was found at the head of some text that begins with no gap. -/
def Found (t : T) : Prop := ∃ m, skip false m = m ∧ lex m = .tok t.kind t.text

theorem Placed.mono {src : List UInt8} : ∀ {ts : List T} {k k' : Nat}, Placed src k ts → k' ≤ k → Placed src k' ts
  | [], _, _, _, _ => trivial
  | _ :: _, _, _, h, hk => ⟨Nat.le_trans hk h.1, h.2⟩

theorem run_good (src : List UInt8) : ∀ (n : Nat) (k : Nat) (acc : List T), src.length - k = n → k ≤ src.length →
    (∃ Ts, run src.length (src.drop k) acc = .ok (acc ++ Ts ++ [⟨6, [], src.length⟩]) ∧ Placed src k Ts ∧ (∀ t ∈ Ts, Found t) ∧ Ts.length ≤ src.length - k) ∨
    (∃ p e, run src.length (src.drop k) acc = .err p e ∧ (e = 2 ∨ e = 9) ∧ k ≤ p ∧ p < src.length ∧ ∃ L, run p ((src.take p).drop k) acc = .ok L) := by
  intro n
  induction n using Nat.strongRecOn with
  | _ n ih =>
    intro k acc hn hk
    have hlen : (src.drop k).length = src.length - k := List.length_drop ..
    have hsl := skip_len (src.drop k) false
    have hsuf := skip_suffix (src.drop k) false
    rw [hlen] at hsl hsuf
    rw [List.drop_drop] at hsuf
    have hcut : ∀ m, skip false ((src.take m).drop k) = (skip false (src.drop k)).take ((m - k) - (src.length - k - (skip false (src.drop k)).length)) := by
      intro m
      rw [List.drop_take, skip_take, hlen]
    cases hs : skip false (src.drop k) with
    | nil =>
      left
      refine ⟨[], by rw [run_nil hs]; simp, trivial, by simp, by simp⟩
    | cons b r =>
      rw [hs] at hsl hsuf
      have hq : src.drop (k + (src.length - k - (b :: r).length)) = b :: r := hsuf.symm
      obtain ⟨q, hqe⟩ : ∃ q, q = k + (src.length - k - (b :: r).length) := ⟨_, rfl⟩
      rw [← hqe] at hq
      have hql : q + (b :: r).length = src.length := by
        have h1 : 0 < (b :: r).length := by simp
        omega
      have h1 : 0 < (b :: r).length := by simp
      have hqk : k ≤ q := by omega
      cases hx : lex (b :: r) with
      | err e =>
        right
        refine ⟨q, e, ?_, lex_err hx, hqk, by omega, _, run_nil (acc := acc) ?_⟩
        · rw [run_err hs (by simp) hx]
          congr 1; omega
        · rw [hcut, hs, show q - k - (src.length - k - (b :: r).length) = 0 by omega]; rfl
      | tok kd t =>
        obtain ⟨hp, ht0⟩ := lex_prefix hx
        have htl := hp.length_le
        have hrun : run src.length (src.drop k) acc = run src.length (src.drop (q + t.length)) (acc ++ [⟨kd, t, q⟩]) := by
          rw [run_tok hs (by simp) hx, ← hq, List.drop_drop, List.length_drop, show src.length - (src.length - q) = q by omega]
        have htake : (src.drop q).take t.length = t := by rw [hq]; exact (List.prefix_iff_eq_take.1 hp).symm
        have hshort : ∀ m, q + t.length ≤ m → m ≤ src.length → run m ((src.take m).drop k) acc = run m ((src.take m).drop (q + t.length)) (acc ++ [⟨kd, t, q⟩]) := by
          intro m hm hms
          have hsk : skip false ((src.take m).drop k) = (b :: r).take (m - q) := by
            rw [hcut, hs]; congr 1; omega
          have hlx := lex_take hx (m := m - q) (by omega)
          have hne : (b :: r).take (m - q) ≠ [] := by
            rw [show m - q = (m - q - 1) + 1 by omega, List.take_succ_cons]; simp
          rw [run_tok hsk hne hlx]
          have e1 : ((b :: r).take (m - q)).drop t.length = (src.take m).drop (q + t.length) := by
            rw [← hq, List.drop_take, List.drop_drop, List.drop_take]; congr 1; omega
          rw [e1]
          have e2 : m - ((b :: r).take (m - q)).length = q := by rw [List.length_take]; omega
          rw [e2]
        rcases ih (src.length - (q + t.length)) (by omega) (q + t.length) (acc ++ [⟨kd, t, q⟩]) rfl (by omega) with ⟨Ts, h2, h3, h4, h5⟩ | ⟨p, e, h2, he, h3, h4, L, h5⟩
        · left
          refine ⟨⟨kd, t, q⟩ :: Ts, ?_, ⟨hqk, by simp only; omega, htake, h3⟩, ?_, by simp only [List.length_cons]; omega⟩
          · rw [hrun, h2]; simp
          · intro u hu
            rcases List.mem_cons.1 hu with rfl | hu
            · exact ⟨b :: r, by rw [← hs, skip_twice], hx⟩
            · exact h4 u hu
        · right
          exact ⟨p, e, by rw [hrun, h2], he, by omega, h4, L, by rw [hshort p h3 (by omega), h5]⟩

theorem split_cases (src : List UInt8) :
    (∃ Ts, split src = .ok (Ts ++ [⟨6, [], src.length⟩]) ∧ Placed src 0 Ts ∧ (∀ t ∈ Ts, Found t) ∧ Ts.length ≤ src.length ∧ src.length ≤ 16384) ∨
    (src.length ≤ 16384 ∧ ∃ p e, split src = .err p e ∧ (e = 2 ∨ e = 9) ∧ p < src.length ∧ ∃ L, split (src.take p) = .ok L) ∨
    (16384 < src.length ∧ split src = .err 0 9) := by
  by_cases h : 16384 < src.length
  · exact .inr (.inr ⟨h, by unfold split; rw [if_pos h]⟩)
  · have e : split src = run src.length (src.drop 0) [] := by unfold split; rw [if_neg h, List.drop_zero]
    rcases run_good src _ 0 [] rfl (by omega) with ⟨Ts, h2, h3, h4, h5⟩ | ⟨p, er, h2, he, _, h4, L, h5⟩
    · exact .inl ⟨Ts, by rw [e, h2]; rfl, h3, h4, by omega, by omega⟩
    · refine .inr (.inl ⟨by omega, p, er, by rw [e, h2], he, h4, L, ?_⟩)
      unfold split
      have hl : (src.take p).length = p := by rw [List.length_take]; omega
      rw [hl, if_neg (by omega)]
      exact h5

theorem awake_split : split [97, 60, 61, 98] = .ok [⟨1, [97], 0⟩, ⟨5, [60, 61], 1⟩, ⟨1, [98], 3⟩, ⟨6, [], 4⟩] := by
  have e : split [97, 60, 61, 98] = run 4 [97, 60, 61, 98] [] := rfl
  rw [e, run_tok (m := [97, 60, 61, 98]) (k := 1) (t := [97]) rfl (by simp) rfl]
  rw [show ([97, 60, 61, 98] : List UInt8).drop ([97] : List UInt8).length = [60, 61, 98] from rfl]
  rw [run_tok (m := [60, 61, 98]) (k := 5) (t := [60, 61]) rfl (by simp) rfl]
  rw [show ([60, 61, 98] : List UInt8).drop ([60, 61] : List UInt8).length = [98] from rfl]
  rw [run_tok (m := [98]) (k := 1) (t := [98]) rfl (by simp) rfl]
  rw [show ([98] : List UInt8).drop ([98] : List UInt8).length = [] from rfl]
  rw [run_nil rfl]
  rfl
end Tok
end Go.Proofs.YtdlcmnfjhnfjcaaDoor
