/-
  Plain mathematics: the texts of the tokens, with a separator behind each, have the same tokens. No conditions but those of each lemma.
-/
import Derived.Test.YtdlcmnfjhnfjcaaDoorT8
namespace Go.Proofs.YtdlcmnfjhnfjcaaDoor
namespace Tok

def join (L : List T) (sep : List UInt8) : List UInt8 := L.flatMap fun t => t.text ++ sep
theorem join_cons (t : T) (L : List T) (sep : List UInt8) : join (t :: L) sep = t.text ++ (sep ++ join L sep) := by simp [join]
theorem join_snoc (L : List T) (t : T) (sep : List UInt8) : join (L ++ [t]) sep = join L sep ++ (t.text ++ sep) := by simp [join]

/-- A text that separates: it begins with a byte of no name, no number and no second half of a sign, and leaves nothing. -/
def Sep (sep : List UInt8) : Prop := (∃ c r, sep = c :: r ∧ nameB c = false ∧ c ≠ 62 ∧ c ≠ 61) ∧ ∀ x, skip false (sep ++ x) = skip false x

theorem sep_blank : Sep [32] := ⟨⟨32, [], rfl, by decide, by decide, by decide⟩, fun x => rfl⟩
theorem sep_blanks : Sep [9, 13, 10] := ⟨⟨9, _, rfl, by decide, by decide, by decide⟩, fun x => rfl⟩
theorem skip_comment (x : List UInt8) : ∀ (l : List UInt8), (∀ b ∈ l, b.toNat ≠ 10) → skip true (l ++ 10 :: x) = skip false x
  | [], _ => rfl
  | b :: l, h => by
    have h1 : b.toNat ≠ 10 := h b (List.mem_cons_self ..)
    rw [List.cons_append, skip, if_neg h1]
    have h2 := skip_comment x l fun c hc => h c (List.mem_cons_of_mem _ hc)
    split
    · exact h2
    · rw [if_pos (.inr rfl)]; exact h2
theorem sep_comment (l : List UInt8) (h : ∀ b ∈ l, b.toNat ≠ 10) : Sep (35 :: (l ++ [10])) :=
  ⟨⟨35, _, rfl, by decide, by decide, by decide⟩, fun x => by
    have e : (35 :: (l ++ [10])) ++ x = 35 :: (l ++ 10 :: x) := by simp
    rw [e, skip, if_neg (by decide), if_pos (by decide)]
    exact skip_comment x l h⟩

theorem tw_sep {p : UInt8 → Bool} {c : UInt8} {x : List UInt8} (hc : p c = false) : ∀ (l : List UInt8), ((l.takeWhile p) ++ c :: x).takeWhile p = l.takeWhile p
  | [] => by rw [List.takeWhile_nil, List.nil_append, List.takeWhile_cons_of_neg (by simp [hc])]
  | b :: r => by
    cases hb : p b
    · rw [List.takeWhile_cons_of_neg (by simp [hb]), List.nil_append, List.takeWhile_cons_of_neg (by simp [hc])]
    · rw [List.takeWhile_cons_of_pos hb, List.cons_append, List.takeWhile_cons_of_pos hb, tw_sep hc r]
theorem dig_of_name {c : UInt8} (h : nameB c = false) : digB c = false := by
  unfold nameB at h
  simp only [Bool.or_eq_false_iff] at h
  exact h.1.2

theorem lex_sep {m t : List UInt8} {kd : Nat} {c : UInt8} {x : List UInt8} (h : lex m = .tok kd t) (hc : nameB c = false) (h62 : c ≠ 62) (h61 : c ≠ 61) : lex (t ++ c :: x) = .tok kd t := by
  obtain ⟨hp, h0⟩ := lex_prefix h
  cases m with
  | nil => cases h
  | cons b r =>
    obtain ⟨y, rfl⟩ : ∃ y, t = b :: y := by
      cases t with
      | nil => simp at h0
      | cons a y => obtain ⟨z, hz⟩ := hp; injection hz with hz _; exact ⟨y, by rw [hz]⟩
    have e : (b :: y) ++ c :: x = b :: (y ++ c :: x) := rfl
    rw [lex] at h
    rw [e, lex, ← e]
    split
    · rename_i hb
      rw [if_pos hb] at h
      have ht := word_tok h
      rw [ht, tw_sep hc, ← ht]; rw [← ht] at h; exact h
    · rename_i hb
      rw [if_neg hb] at h
      split
      · rename_i hb2
        rw [if_pos hb2] at h
        have ht := word_tok h
        rw [ht, tw_sep hc, ← ht]; rw [← ht] at h; exact h
      · rename_i hb2
        rw [if_neg hb2] at h
        split
        · rename_i hb3
          rw [if_pos hb3] at h
          have ht := number_tok h
          rw [ht, tw_sep (dig_of_name hc), ← ht]; rw [← ht] at h; exact h
        · rename_i hb3
          rw [if_neg hb3] at h
          obtain ⟨hs, rfl⟩ := sign_tok h
          have es : signOf ((b :: y) ++ c :: x) = some (b :: y) := by
            cases h2 : two (b :: r)
            · rw [sign_one b r h2] at hs
              split at hs
              · rename_i ho
                injection hs with hs
                injection hs with _ hs
                subst hs
                have hn : two (b :: c :: x) = false := by
                  unfold two
                  simp only [List.take_succ_cons, List.take_zero]
                  have e1 : ((b :: [c] : List UInt8) == [45, 62]) = false := by simp [h62]
                  have e2 : ((b :: [c] : List UInt8) == [60, 61]) = false := by simp [h61]
                  have e3 : ((b :: [c] : List UInt8) == [61, 61]) = false := by simp [h61]
                  rw [e1, e2, e3]; simp
                show signOf (b :: c :: x) = _
                rw [sign_one b _ hn, if_pos ho]
              · cases hs
            · have hl2 := sign_two _ h2
              rw [hl2] at hs
              injection hs with hs
              obtain ⟨z, rfl⟩ : ∃ z, y = [z] := by
                have hl : (b :: y).length = 2 := by
                  rw [← hs, List.length_take]
                  unfold two at h2
                  simp only [Bool.and_eq_true, decide_eq_true_eq] at h2
                  omega
                match y, hl with
                | [z], _ => exact ⟨z, rfl⟩
              have hn : two (b :: z :: c :: x) = true := by
                unfold two at h2 ⊢
                rw [hs] at h2
                simp only [Bool.and_eq_true, decide_eq_true_eq] at h2 ⊢
                exact ⟨by simp, by simpa using h2.2⟩
              show signOf (b :: z :: c :: x) = _
              rw [sign_two _ hn]; rfl
          rw [es]; rfl

theorem run_join (n : Nat) {sep : List UInt8} (hs : Sep sep) : ∀ (Ts : List T) (acc : List T), (∀ t ∈ Ts, Found t) →
    ∃ Us, run n (join Ts sep ++ sep) acc = .ok (acc ++ Us ++ [⟨6, [], n⟩]) ∧ Us.map (fun t => (t.kind, t.text)) = Ts.map (fun t => (t.kind, t.text))
  | [], acc, _ => ⟨[], by
      rw [show join [] sep ++ sep = sep ++ [] by simp [join], run_skip (hs.2 []), run_nil rfl]; simp, rfl⟩
  | t :: Ts, acc, hF => by
    obtain ⟨m, hm, hx⟩ := hF t (List.mem_cons_self ..)
    obtain ⟨⟨c, r, hcr, hc, h62, h61⟩, hsk⟩ := hs
    have hx2 := lex_sep (x := r ++ (join Ts sep ++ sep)) hx hc h62 h61
    have e : join (t :: Ts) sep ++ sep = t.text ++ c :: (r ++ (join Ts sep ++ sep)) := by rw [join_cons, hcr]; simp
    obtain ⟨hp, h0⟩ := lex_prefix hx
    have hgap : skip false (t.text ++ c :: (r ++ (join Ts sep ++ sep))) = t.text ++ c :: (r ++ (join Ts sep ++ sep)) := by
      cases ht : t.text with
      | nil => rw [ht] at h0; simp at h0
      | cons b y =>
        obtain ⟨z, hz⟩ := hp
        rw [ht] at hz
        obtain ⟨h1, h2, h3⟩ := skip_head m false b (y ++ z) (by rw [hm, ← hz]; rfl)
        exact skip_of_head b _ h1 h2 h3
    obtain ⟨Us, h1, h2⟩ := run_join n ⟨⟨c, r, hcr, hc, h62, h61⟩, hsk⟩ Ts (acc ++ [⟨t.kind, t.text, n - (t.text ++ c :: (r ++ (join Ts sep ++ sep))).length⟩]) (fun u hu => hF u (List.mem_cons_of_mem _ hu))
    refine ⟨⟨t.kind, t.text, n - (t.text ++ c :: (r ++ (join Ts sep ++ sep))).length⟩ :: Us, ?_, by simp [h2]⟩
    rw [e, run_tok hgap (by simp) hx2, List.drop_left]
    have e2 : c :: (r ++ (join Ts sep ++ sep)) = sep ++ (join Ts sep ++ sep) := by rw [hcr]; simp
    rw [e2, run_skip (hsk _)]
    rw [e2] at h1
    rw [h1]; simp

/-- The tokens' texts, with a separator behind each, have the same kinds and texts. -/
theorem split_join {Ts : List T} {n : Nat} {sep : List UInt8} (hs : Sep sep) (hF : ∀ t ∈ Ts, Found t) (hl : (join (Ts ++ [⟨6, [], n⟩]) sep).length ≤ 16384) :
    ∃ M, split (join (Ts ++ [⟨6, [], n⟩]) sep) = .ok M ∧ M.map (fun t => (t.kind, t.text)) = (Ts ++ [(⟨6, [], n⟩ : T)]).map (fun t => (t.kind, t.text)) := by
  obtain ⟨Us, h1, h2⟩ := run_join (join (Ts ++ [⟨6, [], n⟩]) sep).length hs Ts [] hF
  refine ⟨Us ++ [⟨6, [], (join (Ts ++ [⟨6, [], n⟩]) sep).length⟩], ?_, by simp [h2]⟩
  unfold split
  rw [if_neg (by omega)]
  have e : join (Ts ++ [⟨6, [], n⟩]) sep = join Ts sep ++ sep := by rw [join_snoc]; rfl
  rw [← List.nil_append Us, ← h1, ← e]
end Tok
end Go.Proofs.YtdlcmnfjhnfjcaaDoor
