/-
  What the walks of both Split functions need: how tokens lie in memory, and the head of a text by its cases. Conditions: as each says.
-/
import Derived.Test.YtdlcmnfjhnfjcaaDoorT5
namespace Go.Proofs.YtdlcmnfjhnfjcaaDoor
open Go.RowKit Tok

def cells3 (L : List T) : List Value := L.flatMap fun t => [.int .i64 t.kind, .string ⟨t.text.toArray⟩, .int .i64 t.pos]
theorem cells3_append (A B : List T) : cells3 (A ++ B) = cells3 A ++ cells3 B := by simp [cells3]
theorem cells3_one (k p : Nat) (t : List UInt8) : cells3 [⟨k, t, p⟩] = [.int .i64 k, .string ⟨t.toArray⟩, .int .i64 p] := rfl
theorem cells3_len : ∀ L : List T, (cells3 L).length = 3 * L.length
  | [] => rfl
  | t :: L => by
    have h := cells3_len L
    have e : cells3 (t :: L) = [.int .i64 t.kind, .string ⟨t.text.toArray⟩, .int .i64 t.pos] ++ cells3 L := rfl
    rw [e, List.length_append, h, List.length_cons]
    simp only [List.length_cons, List.length_nil]
    omega
theorem cells3_get : ∀ (L : List T) (i : Nat) (h : i < L.length), (cells3 L)[3 * i]? = some (.int .i64 (L[i]).kind) ∧ (cells3 L)[3 * i + 1]? = some (.string ⟨(L[i]).text.toArray⟩) ∧ (cells3 L)[3 * i + 2]? = some (.int .i64 (L[i]).pos)
  | t :: L, 0, _ => ⟨rfl, rfl, rfl⟩
  | t :: L, i + 1, h => by
    have h := cells3_get L i (by simpa using h)
    have e : cells3 (t :: L) = [.int .i64 t.kind, .string ⟨t.text.toArray⟩, .int .i64 t.pos] ++ cells3 L := rfl
    have hk : ∀ j, (cells3 (t :: L))[j + 3]? = (cells3 L)[j]? := fun j => by
      rw [e, List.getElem?_append_right (by simp)]; simp
    rw [show 3 * (i + 1) = 3 * i + 3 by omega, show 3 * i + 3 + 1 = (3 * i + 1) + 3 by omega, show 3 * i + 3 + 2 = (3 * i + 2) + 3 by omega, hk, hk, hk]
    exact h

theorem own_below {w w' : World} {base : Nat} {e : TypeId} {size : Nat} {v : Value} {n : Nat} {xs : List Value} (h : w.ownsRow base e size v n xs) (hb : Below w.heap.size w w') : w'.ownsRow base e size v n xs :=
  h.kept (row := none) ⟨hb.os, hb.tape, hb.output, hb.size, fun k hk _ => hb.block k hk⟩ (by
    rcases h.2 with ⟨rfl, _⟩ | ⟨g, cap, cur, rfl, _⟩
    · exact .inl rfl
    · exact .inr (by simp [Value.ownBlock]))

/-- The slice value v reads as the tokens L. -/
def TokS (w : World) (v : Value) (L : List T) : Prop :=
  ∃ a cap, v = .slice a L.length cap ∧ ∀ (i : Nat) (h : i < L.length), ∃ g, a = some ⟨g, 0, none⟩ ∧
    w.cell? ⟨g, 3 * i, none⟩ = some (.int .i64 (L[i]).kind) ∧ w.cell? ⟨g, 3 * i + 1, none⟩ = some (.string ⟨(L[i]).text.toArray⟩) ∧ w.cell? ⟨g, 3 * i + 2, none⟩ = some (.int .i64 (L[i]).pos)
theorem addr_add (g i : Nat) : (⟨g, 0, none⟩ : Addr).add i = ⟨g, i, none⟩ := by
  unfold Addr.add; split <;> simp_all
theorem TokS.of_own {w : World} {base : Nat} {e : TypeId} {v : Value} {n : Nat} {L : List T} (h : w.ownsRow base e 3 v n (cells3 L)) (hn : n = L.length) : TokS w v L := by
  subst hn
  rcases h.2 with ⟨rfl, hl⟩ | ⟨g, cap, cur, rfl, _, _, hn, _⟩
  · exact ⟨none, 0, by rw [hl], fun i hi => absurd hi (by omega)⟩
  · refine ⟨some ⟨g, 0, none⟩, cap, rfl, fun i hi => ⟨g, rfl, ?_⟩⟩
    have hc := h.cells (g := g) rfl
    obtain ⟨h1, h2, h3⟩ := cells3_get L i hi
    have e1 := hc _ _ h1
    have e2 := hc _ _ h2
    have e3 := hc _ _ h3
    rw [addr_add] at e1 e2 e3
    exact ⟨e1, e2, e3⟩
theorem TokS.below {w w' : World} {v : Value} {L : List T} (h : TokS w v L) (hb : Below w.heap.size w w') : TokS w' v L := by
  obtain ⟨a, cap, rfl, h⟩ := h
  refine ⟨a, cap, rfl, fun i hi => ?_⟩
  obtain ⟨g, rfl, h1, h2, h3⟩ := h i hi
  exact ⟨g, rfl, (hb.cell (World.block_lt_of_cell? w _ h1)).trans h1, (hb.cell (World.block_lt_of_cell? w _ h2)).trans h2, (hb.cell (World.block_lt_of_cell? w _ h3)).trans h3⟩

/-- What Split answers. -/
def ResV (w : World) (r : Res) (V : Value) : Prop := match r with
  | .ok L => ∃ v, V = .tuple #[v, .int .i64 0, .int .i64 0] ∧ TokS w v L
  | .err p e => V = .tuple #[.slice none 0 0, .int .i64 p, .int .i64 e]
def SplitP (l : List UInt8) (w : World) (e : Ending) (w' : World) : Prop := ∃ V, e = .returned V ∧ ResV w' (Tok.split l) V ∧ Below w.heap.size w w'

theorem disj {b : UInt8} (h : digB b = true) : lowB b = false ∧ uppB b = false := by
  rw [digB_iff] at h
  rw [← Bool.not_eq_true, ← Bool.not_eq_true, lowB_iff, uppB_iff]
  omega
theorem disj2 {b : UInt8} (h : uppB b = true) : lowB b = false := by
  rw [uppB_iff] at h
  rw [← Bool.not_eq_true, lowB_iff]
  omega

/-- The head of a text, as leadingWord and checkWord find it. -/
theorem lead_lex (b : UInt8) (r : List UInt8) :
    (lead b (b :: r) = (0, []) ∧ lex (b :: r) = sign (signOf (b :: r))) ∨
    (∃ t, lead b (b :: r) = (3, t) ∧ t = (b :: r).takeWhile digB ∧ digB b = true ∧ lex (b :: r) = if numErr b t = 0 then .tok 3 t else .err (numErr b t)) ∨
    (∃ k t, lead b (b :: r) = (k, t) ∧ (k = 1 ∨ k = 2 ∨ k = 4) ∧ t = (b :: r).takeWhile nameB ∧ nameB b = true ∧ lex (b :: r) = if wordErr t.length = 0 then .tok k t else .err (wordErr t.length)) := by
  unfold lead
  rw [lex]
  cases h1 : digB b
  · cases h2 : uppB b
    · cases h3 : lowB b
      · left; simp
      · right; right
        have hn := nameB_of_low h3
        by_cases hm : (b :: r).takeWhile nameB ∈ kws
        · refine ⟨4, _, by simp [hm], by omega, rfl, hn, ?_⟩
          unfold word wordErr
          rw [if_pos rfl]
          by_cases h : 24 < ((b :: r).takeWhile nameB).length <;> simp [h, hm]
        · refine ⟨1, _, by simp [hm], by omega, rfl, hn, ?_⟩
          unfold word wordErr
          rw [if_pos rfl]
          by_cases h : 24 < ((b :: r).takeWhile nameB).length <;> simp [h, hm]
    · right; right
      have hn := nameB_of_upp h2
      refine ⟨2, _, by simp, by omega, rfl, hn, ?_⟩
      rw [disj2 h2]
      unfold word wordErr
      rw [if_neg (by simp), if_pos rfl]
      by_cases h : 24 < ((b :: r).takeWhile nameB).length <;> simp [h]
  · right; left
    obtain ⟨e1, e2⟩ := disj h1
    refine ⟨_, by simp, rfl, rfl, ?_⟩
    rw [e1, e2, if_neg (by simp), if_neg (by simp), if_pos rfl]
    unfold number numErr
    split
    · simp
    · split <;> simp

theorem skip_idem (l : List UInt8) : skip false (skip false l) = skip false l := by
  cases h : skip false l with
  | nil => rfl
  | cons b r =>
    obtain ⟨h1, h2, h3⟩ := skip_head l false b r h
    exact skip_of_head b r h1 h2 h3
theorem gapEnd_bd (l : List UInt8) (k : Nat) (hk : k ≤ l.length) : k ≤ gapEnd l k ∧ gapEnd l k ≤ l.length := by
  unfold gapEnd
  have h := skip_len (l.drop k) false
  rw [List.length_drop] at h
  omega
theorem gapEnd_drop (l : List UInt8) (k : Nat) (hk : k ≤ l.length) : l.drop (gapEnd l k) = skip false (l.drop k) := by
  have h := skip_suffix (l.drop k) false
  have hl := skip_len (l.drop k) false
  rw [List.length_drop] at hl
  rw [h, List.drop_drop, List.length_drop]
  unfold gapEnd
  congr 1
  omega

/-- One token more: where the next one begins, and what is left to be said. -/
theorem run_next {l t : List UInt8} {acc : List T} {k kd : Nat} (hk : k < l.length) (hg : skip false (l.drop k) = l.drop k) (hx : lex (l.drop k) = .tok kd t) (hR : Tok.split l = run l.length (l.drop k) acc) :
    k + t.length ≤ l.length ∧ k + t.length ≤ gapEnd l (k + t.length) ∧ gapEnd l (k + t.length) ≤ l.length ∧ skip false (l.drop (gapEnd l (k + t.length))) = l.drop (gapEnd l (k + t.length)) ∧ Tok.split l = run l.length (l.drop (gapEnd l (k + t.length))) (acc ++ [⟨kd, t, k⟩]) := by
  obtain ⟨hp, h0⟩ := lex_prefix hx
  have hle := hp.length_le
  rw [List.length_drop] at hle
  have h1 : k + t.length ≤ l.length := by omega
  obtain ⟨h2, h3⟩ := gapEnd_bd l _ h1
  have hd := gapEnd_drop l _ h1
  refine ⟨h1, h2, h3, by rw [hd, skip_idem], ?_⟩
  rw [hR, run_tok hg (by intro e; rw [e] at hx; cases hx) hx, List.drop_drop, List.length_drop, show l.length - (l.length - k) = k by omega]
  exact run_skip (by rw [hd, skip_idem])
theorem run_fail {l : List UInt8} {acc : List T} {k e : Nat} (hk : k < l.length) (hg : skip false (l.drop k) = l.drop k) (hx : lex (l.drop k) = .err e) (hR : Tok.split l = run l.length (l.drop k) acc) : Tok.split l = .err k e := by
  rw [hR, run_err hg (by intro h; rw [← List.length_eq_zero_iff, List.length_drop] at h; omega) hx, List.length_drop, show l.length - (l.length - k) = k by omega]
theorem run_done {l : List UInt8} {acc : List T} {k : Nat} (hk : l.length ≤ k) (hR : Tok.split l = run l.length (l.drop k) acc) : Tok.split l = .ok (acc ++ [⟨6, [], l.length⟩]) := by
  rw [hR, List.drop_of_length_le hk]; exact run_nil rfl
theorem run_first {l : List UInt8} (h : l.length ≤ 16384) : Tok.split l = run l.length (l.drop (gapEnd l 0)) [] := by
  unfold Tok.split
  rw [if_neg (by omega), gapEnd_drop l 0 (by omega)]
  exact run_skip (by rw [List.drop_zero, skip_idem])

theorem find_at {α : Type} {p : α → Bool} {d : α} : ∀ (S : List α) (j : Nat), j < S.length → (∀ i, i < j → p (S.getD i d) = false) → p (S.getD j d) = true → S.find? p = some (S.getD j d)
  | a :: S, 0, _, _, h => by simp only [List.getD_cons_zero] at h ⊢; rw [List.find?_cons_of_pos h]
  | a :: S, j + 1, hj, hn, h => by
    have h0 : p a = false := by have := hn 0 (by omega); simpa using this
    rw [List.find?_cons_of_neg (by simp [h0])]
    simp only [List.getD_cons_succ] at h ⊢
    exact find_at S j (by simpa using hj) (fun i hi => by have := hn (i + 1) (by omega); simpa using this) h
theorem find_no {α : Type} {p : α → Bool} {d : α} : ∀ (S : List α), (∀ i, i < S.length → p (S.getD i d) = false) → S.find? p = none
  | [], _ => rfl
  | a :: S, hn => by
    have h0 : p a = false := by have := hn 0 (by simp); simpa using this
    rw [List.find?_cons_of_neg (by simp [h0])]
    exact find_no S fun i hi => by have := hn (i + 1) (by simpa using hi); simpa using this

/-- The head of a text that is a word or a number: checkWord answers what its lexing says. -/
theorem head_word (b : UInt8) (r : List UInt8) (hl : (b :: r).length ≤ 16384) :
    (lead b (b :: r) = (0, []) ∧ lex (b :: r) = sign (signOf (b :: r))) ∨
    (∃ (k : Nat) (t : List UInt8) (er : Nat), lead b (b :: r) = (k, t) ∧ 0 < k ∧ er ≤ 9 ∧ 0 < t.length ∧ t.length ≤ 16384 ∧ (∀ (tb : ByteArray) (w : World), tb.data.toList = t → Calls Tryd.prog 13 #[.int .i64 k, .string tb] w (Ans w (.int .i64 er))) ∧
      lex (b :: r) = if er = 0 then .tok k t else .err er) := by
  rcases lead_lex b r with h | ⟨t, h1, ht, hd, hx⟩ | ⟨k, t, h1, hk, ht, hn, hx⟩
  · exact .inl h
  · right
    have h0 : 0 < t.length := by rw [ht]; simp [hd]
    have hle : t.length ≤ (b :: r).length := by rw [ht]; exact (List.takeWhile_prefix _).length_le
    have hc : t = b :: r.takeWhile digB := by rw [ht, List.takeWhile_cons_of_pos hd]
    have hall : t.all digB = true := by rw [ht]; exact List.all_takeWhile
    refine ⟨3, t, numErr b t, h1, by omega, ?_, h0, by omega, fun tb w htb => ?_, hx⟩
    · unfold numErr; split
      · omega
      · split <;> omega
    · have := checkNumber_any tb b (r.takeWhile digB) w (by rw [← size_data, htb]; omega) (by rw [htb, hc]) (by rw [htb, hall])
      rw [htb] at this
      exact this
  · right
    have h0 : 0 < t.length := by rw [ht]; simp [hn]
    have hle : t.length ≤ (b :: r).length := by rw [ht]; exact (List.takeWhile_prefix _).length_le
    refine ⟨k, t, wordErr t.length, h1, by omega, ?_, h0, by omega, fun tb w htb => ?_, hx⟩
    · unfold wordErr; split <;> omega
    · have := checkName_any tb k w (by rw [← size_data, htb]; omega) hk
      rw [← size_data, htb] at this
      exact this

theorem cells_new3 (w : World) (a b c : Value) (e : TypeId) : ∀ (j : Nat) (u : Value), [a, b, c][j]? = some u → (w.alloc (.cells #[a, b, c] e)).cell? ((⟨w.heap.size, 0, none⟩ : Addr).add j) = some u := by
  intro j u h
  rw [addr_add, World.cell?_alloc_new]
  match j, h with
  | 0, h => exact h
  | 1, h => exact h
  | 2, h => exact h
  | n + 3, h => simp at h

end Go.Proofs.YtdlcmnfjhnfjcaaDoor
