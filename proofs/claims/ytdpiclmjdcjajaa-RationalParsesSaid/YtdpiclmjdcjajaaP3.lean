/-
  Decimal digits, and the walks of parseNatural and of the reference's digits. Condition: the text's length is one that a string can have.
-/
import Derived.Test.YtdpiclmjdcjajaaNum
import Derived.Test.YtdpiclmjdcjajaaN1
import Derived.Lib.Strings
import Derived.Test.YtdpiclmjdcjajaaQ1
import Derived.Deep.LoopGhost
namespace Go.Proofs.Ytdpiclmjdcjajaa
open Num

def digB (b : UInt8) : Bool := decide (48 ≤ b.toNat ∧ b.toNat ≤ 57)
theorem digB_iff (b : UInt8) : digB b = true ↔ 48 ≤ b.toNat ∧ b.toNat ≤ 57 := by simp [digB]
def dstep (v : Nat) (b : UInt8) : Nat := 10 * v + (b.toNat - 48)
def dv (v : Nat) (l : List UInt8) : Nat := l.foldl dstep v
theorem dv_nil (v : Nat) : dv v [] = v := List.foldl_nil
theorem dv_cons (v : Nat) (b : UInt8) (r : List UInt8) : dv v (b :: r) = dv (10 * v + (b.toNat - 48)) r := by
  unfold dv; rw [List.foldl_cons]; unfold dstep; exact Eq.refl _
theorem dv_append (l m : List UInt8) (v : Nat) : dv v (l ++ m) = dv (dv v l) m := by
  induction l generalizing v with
  | nil => rfl
  | cons b r ih => rw [List.cons_append, dv_cons, dv_cons, ih]
theorem dv_snoc (l : List UInt8) (b : UInt8) (v : Nat) : dv v (l ++ [b]) = 10 * dv v l + (b.toNat - 48) := by rw [dv_append, dv_cons, dv_nil]
theorem dv_add (l : List UInt8) (v : Nat) : dv v l = v * 10 ^ l.length + dv 0 l := by
  induction l generalizing v with
  | nil => rw [dv_nil, dv_nil, List.length_nil, Nat.pow_zero, Nat.mul_one, Nat.add_zero]
  | cons b r ih =>
    generalize hd : b.toNat - 48 = d
    generalize hp : 10 ^ r.length = p at ih
    have h1 := ih (10 * v + d)
    have h2 := ih (10 * 0 + d)
    rw [dv_cons, dv_cons, hd, h1, h2, List.length_cons, Nat.pow_succ, hp]
    have e : (10 * v + d) * p = v * (p * 10) + d * p := by
      rw [Nat.add_mul, Nat.mul_comm 10 v, Nat.mul_assoc, Nat.mul_comm 10]
    rw [e, Nat.mul_zero, Nat.zero_add, Nat.add_assoc]
theorem dv_lt (l : List UInt8) (v : Nat) (h : l.all digB = true) : dv v l < (v + 1) * 10 ^ l.length := by
  induction l generalizing v with
  | nil => rw [dv_nil, List.length_nil, Nat.pow_zero]; omega
  | cons b r ih =>
    simp only [List.all_cons, Bool.and_eq_true] at h
    obtain ⟨h1, h2⟩ := (digB_iff b).1 h.1
    have hd : b.toNat - 48 ≤ 9 := by omega
    generalize b.toNat - 48 = d at hd
    have h3 := ih (10 * v + (b.toNat - 48)) h.2
    rw [dv_cons, List.length_cons, Nat.pow_succ]
    generalize 10 ^ r.length = p at h3 ⊢
    have e : (v + 1) * (p * 10) = (10 * v + 10) * p := by
      rw [Nat.mul_comm p 10, ← Nat.mul_assoc]; congr 1; omega
    rw [e]
    exact Nat.lt_of_lt_of_le h3 (Nat.mul_le_mul_right _ (by omega))
theorem dv_lt0 {l : List UInt8} (h : l.all digB = true) : dv 0 l < 10 ^ l.length := by
  have := dv_lt l 0 h
  simpa using this
theorem all_sub {l : List UInt8} (h : l.all digB = true) (i j : Nat) : ((l.take i).drop j).all digB = true := by
  rw [List.all_eq_true] at h ⊢
  exact fun x hx => h x (List.mem_of_mem_take (List.mem_of_mem_drop hx))
theorem dv_chunk {l : List UInt8} (h : l.all digB = true) (k : Nat) (hk : l.length ≤ k) : dv 0 l < 10 ^ k :=
  Nat.lt_of_lt_of_le (dv_lt0 h) (Nat.pow_le_pow_right (by omega) hk)

/-- The bytes of limb q, counted from the end, nine each. -/
def chunk (l : List UInt8) (q : Nat) : List UInt8 := (l.take (l.length - 9 * q)).drop (l.length - 9 * (q + 1))
/-- What of them stands among the first i bytes. -/
def part (l : List UInt8) (i q : Nat) : List UInt8 := ((l.take i).take (l.length - 9 * q)).drop (l.length - 9 * (q + 1))
theorem part_zero (l : List UInt8) (q : Nat) : part l 0 q = [] := by simp [part]
theorem part_all (l : List UInt8) (q : Nat) : part l l.length q = chunk l q := by unfold part chunk; rw [List.take_length]

theorem upper_step (l : List UInt8) (q : Nat) : dv 0 (l.take (l.length - 9 * q)) = dv 0 (chunk l q) + 1000000000 * dv 0 (l.take (l.length - 9 * (q + 1))) := by
  by_cases h : 9 ≤ l.length - 9 * q
  · have e : l.take (l.length - 9 * q) = l.take (l.length - 9 * (q + 1)) ++ chunk l q := by
      unfold chunk
      have e := List.take_append_drop (l.length - 9 * (q + 1)) (l.take (l.length - 9 * q))
      rw [List.take_take, show min (l.length - 9 * (q + 1)) (l.length - 9 * q) = l.length - 9 * (q + 1) by omega] at e
      exact e.symm
    have hl : (chunk l q).length = 9 := by unfold chunk; rw [List.length_drop, List.length_take]; omega
    rw [e, dv_append, dv_add, hl]
    rw [Nat.mul_comm, Nat.add_comm]
  · have e1 : l.length - 9 * (q + 1) = 0 := by omega
    unfold chunk
    rw [e1]
    simp [dv]

/-- Limbs that are the parts of a text of digits have its value. -/
theorem limbs_val (L : List Nat) (l : List UInt8) (h : ∀ q, q < L.length → nth L q = dv 0 (chunk l q)) (hn : l.length ≤ 9 * L.length) : val L = dv 0 l := by
  have key : ∀ j, j ≤ L.length → val (L.drop (L.length - j)) = dv 0 (l.take (l.length - 9 * (L.length - j))) := by
    intro j
    induction j with
    | zero =>
      intro _
      rw [Nat.sub_zero, List.drop_length, show l.length - 9 * L.length = 0 by omega]
      rfl
    | succ j ih =>
      intro hj
      have hi : L.length - (j + 1) < L.length := by omega
      have h1 := ih (by omega)
      have e : L.length - (j + 1) + 1 = L.length - j := by omega
      rw [val_drop L _ hi, e, h1, h _ hi, upper_step l (L.length - (j + 1)), e]
  have h0 := key L.length (Nat.le_refl _)
  rw [Nat.sub_self, List.drop_zero, Nat.mul_zero, Nat.sub_zero, List.take_length] at h0
  exact h0

theorem chunk_lt {l : List UInt8} (h : l.all digB = true) (q : Nat) : dv 0 (chunk l q) < 1000000000 := by
  have h1 := dv_chunk (all_sub h (l.length - 9 * q) (l.length - 9 * (q + 1))) 9 (by rw [List.length_drop, List.length_take]; omega)
  exact h1

/-- One byte more: its limb. -/
theorem part_same {l r : List UInt8} {b : UInt8} {i q : Nat} (hi : l.drop i = b :: r) (hq : (l.length - 1 - i) / 9 = q) : part l (i + 1) q = part l i q ++ [b] := by
  have hil : i < l.length := by
    rcases Nat.lt_or_ge i l.length with h | h
    · exact h
    · rw [List.drop_of_length_le h] at hi; cases hi
  unfold part
  have h1 : i + 1 ≤ l.length - 9 * q := by omega
  have h2 : l.length - 9 * (q + 1) ≤ i := by omega
  rw [List.take_take, List.take_take, show min (l.length - 9 * q) (i + 1) = i + 1 by omega, show min (l.length - 9 * q) i = i by omega]
  have e : l.take (i + 1) = l.take i ++ [b] := by
    rw [List.take_succ_eq_append_getElem hil]
    have := List.drop_eq_getElem_cons hil
    rw [hi] at this
    injection this with h3 _
    rw [h3]
  rw [e, List.drop_append_of_le_length (by rw [List.length_take]; omega)]
theorem part_other {l : List UInt8} {i q q' : Nat} (hil : i < l.length) (hq : (l.length - 1 - i) / 9 = q) (hne : q' ≠ q) : part l (i + 1) q' = part l i q' := by
  unfold part
  rw [List.take_take, List.take_take]
  rcases Nat.lt_or_gt_of_ne hne with h | h
  · rw [List.drop_of_length_le (by rw [List.length_take]; omega), List.drop_of_length_le (by rw [List.length_take]; omega)]
  · rw [show min (l.length - 9 * q') (i + 1) = min (l.length - 9 * q') i by omega]
theorem part_short {l : List UInt8} {i q : Nat} (hil : i < l.length) (hq : (l.length - 1 - i) / 9 = q) (h : (l.take i).all digB = true) : dv 0 (part l i q) < 100000000 := by
  have h1 := dv_chunk (l := part l i q) (all_sub h _ _) 8 (by unfold part; rw [List.length_drop, List.length_take, List.length_take]; omega)
  exact h1
theorem part_lt {l : List UInt8} {i : Nat} (q : Nat) (h : (l.take i).all digB = true) : dv 0 (part l i q) < 1000000000 := by
  have h1 := dv_chunk (l := part l i q) (all_sub h _ _) 9 (by unfold part; rw [List.length_drop, List.length_take, List.length_take]; omega)
  exact h1

/-- What a text of digits says: 1 to 200 of them. -/
def digs (l : List UInt8) : Option Nat := if 1 ≤ l.length ∧ l.length ≤ 200 ∧ l.all digB = true then some (dv 0 l) else none

end Go.Proofs.Ytdpiclmjdcjajaa

namespace Go.Proofs.Ytdpiclmjdcjajaa
open Go.RowKit Num

def DigP (o : Option Nat) (w : World) (e : Ending) (w' : World) : Prop :=
  (match o with
    | none => e = .returned (.tuple #[.slice none 0 0, .bool false])
    | some x => ∃ v, e = .returned (.tuple #[v, .bool true]) ∧ Nt w' v x) ∧ Below w.heap.size w w'
theorem digP_none {o : Option Nat} {w w' : World} {e : Ending} (h : o = none) (he : e = .returned (.tuple #[.slice none 0 0, .bool false])) (hb : Below w.heap.size w w') : DigP o w e w' := by
  subst h; exact ⟨he, hb⟩
theorem digP_some {o : Option Nat} {w w' : World} {e : Ending} {x : Nat} {v : Value} (h : o = some x) (he : e = .returned (.tuple #[v, .bool true])) (hn : Nt w' v x) (hb : Below w.heap.size w w') : DigP o w e w' := by
  subst h; exact ⟨⟨v, he, hn⟩, hb⟩

theorem size_data (s : ByteArray) : s.data.toList.length = s.size := by simp
theorem byte_drop (s : ByteArray) (k : Nat) (h : k < s.size) : s.data.toList.drop k = s[k] :: s.data.toList.drop (k + 1) := by
  rw [List.drop_eq_getElem_cons (by simpa using h)]; rfl
theorem take_snoc (s : ByteArray) (k : Nat) (h : k < s.size) : s.data.toList.take (k + 1) = s.data.toList.take k ++ [s[k]] := by
  rw [List.take_succ_eq_append_getElem (by simpa using h)]; rfl
theorem all_at {p : UInt8 → Bool} {l r : List UInt8} {b : UInt8} {k : Nat} (h : l.all p = true) (hd : l.drop k = b :: r) : p b = true :=
  List.all_eq_true.1 h b (List.mem_of_mem_drop (i := k) (by rw [hd]; simp))
theorem digs_long {l : List UInt8} (h : l.length = 0 ∨ 200 < l.length) : digs l = none := by unfold digs; rw [if_neg (by omega)]
theorem digs_bad {l r : List UInt8} {b : UInt8} {k : Nat} (hd : l.drop k = b :: r) (hb : digB b = false) : digs l = none := by
  unfold digs
  rw [if_neg]
  intro h
  have := all_at h.2.2 hd
  rw [hb] at this; cases this
theorem digs_good {l : List UInt8} (h1 : 1 ≤ l.length) (h2 : l.length ≤ 200) (h3 : l.all digB = true) : digs l = some (dv 0 l) := by unfold digs; rw [if_pos ⟨h1, h2, h3⟩]

/-- The row of limbs when the first i digits are read. -/
def PartRow (l : List UInt8) (i m : Nat) (L : List Nat) : Prop := L.length = m ∧ ∀ q, q < m → nth L q = dv 0 (part l i q)
theorem partRow_zero (l : List UInt8) (m : Nat) : PartRow l 0 m (List.replicate m 0) :=
  ⟨by simp, fun q _ => by rw [nth_replicate, part_zero, dv_nil]⟩
theorem partRow_step {l r : List UInt8} {b : UInt8} {i m q : Nat} {L : List Nat} (h : PartRow l i m L) (hi : l.drop i = b :: r) (hil : i < l.length) (hq : (l.length - 1 - i) / 9 = q) (hqm : q < m) :
    PartRow l (i + 1) m (L.set q (nth L q * 10 + (b.toNat - 48))) := by
  refine ⟨by rw [List.length_set]; exact h.1, fun q' hq' => ?_⟩
  rw [nth_set _ _ _ _ (by rw [h.1]; exact hqm)]
  by_cases e : q' = q
  · subst e
    rw [if_pos rfl, part_same hi hq, dv_snoc, h.2 _ hqm]; omega
  · rw [if_neg e, part_other hil hq e, h.2 q' hq']
theorem partRow_end {l : List UInt8} {m : Nat} {L : List Nat} (h : PartRow l l.length m L) (ha : l.all digB = true) (hm : l.length ≤ 9 * m) : val L = dv 0 l ∧ Lo L := by
  have e : ∀ q, q < L.length → nth L q = dv 0 (chunk l q) := fun q hq => by rw [h.2 q (by rw [← h.1]; exact hq), part_all]
  refine ⟨limbs_val L l e (by rw [h.1]; exact hm), lo_of fun q hq => ?_⟩
  rw [e q hq]; exact chunk_lt ha q

set_option maxHeartbeats 1000000 in
set_option maxRecDepth 20000 in
theorem parseNat_main (s : ByteArray) (w : World) (h1 : 1 ≤ s.size) (h2 : s.size ≤ 200) : Calls Try.prog 51 #[.string s] w (DigP (digs s.data.toList) w) := by
  obtain ⟨i0, hi, hz0, hz1, hz2⟩ := info_parts Try.info58
  obtain ⟨m, hm⟩ : ∃ m : Nat, ((s.size : Int) + 9 - 1) / 9 = (m : Int) := ⟨(s.size + 8) / 9, by omega⟩
  have hm1 : s.size ≤ 9 * m := by omega
  have hm2 : m ≤ 30 := by omega
  have h0 : ((s.size : Int) == 0) = false := by rw [beq_eq_false_iff_ne]; omega
  go_enter Try.func51, Try.ntmps51
  go_wp2_with (at_make; refine wpList_make_full _ rfl _ _ 55 rfl w.heap.size 58 i0 (.int .u32 0) 1 Try.underlying55 hi hz0 hz1 _ _ _ _ m rfl rfl (by omega) (by omega) ?b2 ?b3 (Nat.le_refl _) ?_)
  case b2 => rw [hz2]; omega
  case b3 => unfold maxLen; omega
  intro w0 hown0 hgrow0
  have hown : Own w0 w.heap.size w.heap.size m (List.replicate m 0) := own_made hown0 (by omega)
  have hbel : Below w.heap.size w w0 := (Below.refl _ _).grown hgrow0 (Nat.le_refl _) (fun k h => by cases h)
  clear hown0 hgrow0 hi hz0 hz1 hz2 hm
  go_wp2
  go_loopw [24] (fun i wr => ∃ (k : Nat) (L : List Nat), k ≤ s.size ∧ i = .int .i64 k ∧ Own wr w.heap.size w.heap.size m L ∧ Hid (PartRow s.data.toList k m L ∧ (s.data.toList.take k).all digB = true) ∧ Below w.heap.size w wr) (fun i _ => s.size - (intOf i).toNat)
  case atStart => exact ⟨0, _, Nat.zero_le _, rfl, hown, Lib.hid ⟨partRow_zero _ _, by simp⟩, hbel⟩
  case round =>
    obtain ⟨k, L, hk, rfl, hown, HP, hbel⟩ := hrel
    by_cases hlt : k < s.size
    · obtain ⟨b, hb⟩ : ∃ b, s[k] = b := ⟨_, rfl⟩
      have HB := byte_drop s k hlt
      have HT := take_snoc s k hlt
      rw [hb] at HB HT
      have HH := Lib.hid (And.intro HB HT)
      clear HB HT
      cases hd : digB b
      · have HD := Lib.hid hd
        have hor : (b.toNat : Int) < 48 ∨ (48 ≤ (b.toNat : Int) ∧ 57 < (b.toNat : Int)) := by
          have : ¬ (48 ≤ b.toNat ∧ b.toNat ≤ 57) := by rw [← digB_iff, hd]; simp
          omega
        clear hd
        rcases hor with hx | ⟨hx, hy⟩
        all_goals
          go_wp2
          go_ret2
          exact digP_none (digs_bad HH.out.1 HD.out) rfl hbel
      · obtain ⟨hx, hy⟩ := (digB_iff b).1 hd
        have HD := Lib.hid hd
        clear hd
        obtain ⟨q, hq⟩ : ∃ q : Nat, ((s.size : Int) - 1 - (k : Int)) / 9 = (q : Int) := ⟨(s.size - 1 - k) / 9, by omega⟩
        have hq2 : (s.data.toList.length - 1 - k) / 9 = q := by rw [size_data]; omega
        have hqm : q < m := by omega
        have hcell := hown.cell q hqm
        have hfr := hown.frozen q
        have hsh := part_short (by rw [size_data]; exact hlt) hq2 HP.out.2
        rw [← HP.out.1.2 q hqm] at hsh
        have HS := Lib.hid (And.intro hown (And.intro hbel hq2))
        clear hown hbel hq2
        go_wp2
        go_roundw
        case rel =>
          obtain ⟨hown, hbel, hq2⟩ := HS.out
          refine ⟨k + 1, L.set q (nth L q * 10 + (b.toNat - 48)), by omega, by go_num, hown.store' q _ _ (by omega) (by omega), Lib.hid ⟨partRow_step HP.out.1 HH.out.1 (by rw [size_data]; exact hlt) hq2 hqm, ?_⟩, hbel.setCell (Nat.le_refl _) _⟩
          rw [HH.out.2, List.all_append, HP.out.2]; simp [HD.out]
        case measure => simp [intOf]; omega
    · obtain rfl : k = s.size := by omega
      have hpe := partRow_end (l := s.data.toList) (m := m) (L := L) (by rw [size_data]; exact HP.out.1) (by have := HP.out.2; rw [List.take_of_length_le (by rw [size_data]; exact Nat.le_refl _)] at this; exact this) (by rw [size_data]; exact hm1)
      have hg := digs_good (l := s.data.toList) (by rw [size_data]; exact h1) (by rw [size_data]; exact h2) (by have := HP.out.2; rw [List.take_of_length_le (by rw [size_data]; exact Nat.le_refl _)] at this; exact this)
      have HE := Lib.hid (And.intro hpe hg)
      clear hpe hg
      go_wp2_with (go_at_call 93; refine (trim_any _ _ _ hown.lim HE.out.1.2).mono ?_; rintro e w' ⟨v', rfl, hnt, rfl⟩)
      go_ret2
      exact digP_some HE.out.2 rfl (by rw [← HE.out.1.1]; exact hnt) hbel

set_option maxRecDepth 20000 in
theorem parseNat_any (s : ByteArray) (w : World) (hs : s.size ≤ 9223372036854775807) : Calls Try.prog 51 #[.string s] w (DigP (digs s.data.toList) w) := by
  by_cases h1 : 1 ≤ s.size
  · by_cases h2 : s.size ≤ 200
    · exact parseNat_main s w h1 h2
    · have h0 : ((s.size : Int) == 0) = false := by rw [beq_eq_false_iff_ne]; omega
      have h3 : 200 < s.size := by omega
      have hg := Lib.hid (digs_long (l := s.data.toList) (.inr (by rw [size_data]; exact h3)))
      clear h2
      go_enter Try.func51, Try.ntmps51
      go_wp2
      go_ret2
      exact digP_none hg.out rfl (Below.refl _ _)
  · have h0 : ((s.size : Int) == 0) = true := by rw [beq_iff_eq]; omega
    have hg := Lib.hid (digs_long (l := s.data.toList) (.inl (by rw [size_data]; omega)))
    clear h1
    go_enter Try.func51, Try.ntmps51
    go_wp2
    go_ret2
    exact digP_none hg.out rfl (Below.refl _ _)

/-- The limbs from the end: q of them are read. -/
def TailRow (l : List UInt8) (q : Nat) (L : List Nat) : Prop := L.length = q ∧ (∀ j, j < q → nth L j = dv 0 (chunk l j)) ∧ (l.drop (l.length - 9 * q)).all digB = true
theorem chunk_part (l : List UInt8) (q i : Nat) (h : i = l.length - 9 * q) : (l.take i).drop (l.length - 9 * (q + 1)) = chunk l q := by subst h; rfl
theorem tailRow_step {l : List UInt8} {q : Nat} {L : List Nat} (h : TailRow l q L) (hc : (chunk l q).all digB = true) : TailRow l (q + 1) (L ++ [dv 0 (chunk l q)]) := by
  refine ⟨by rw [List.length_append, h.1]; rfl, fun j hj => ?_, ?_⟩
  · rcases Nat.lt_or_eq_of_le (Nat.le_of_lt_succ hj) with h1 | h1
    · rw [nth_append_left _ _ _ (by rw [h.1]; exact h1)]; exact h.2.1 j h1
    · subst h1
      have e := nth_append_right L [dv 0 (chunk l j)] 0
      rw [h.1, Nat.add_zero] at e
      rw [e]; rfl
  · have e : l.drop (l.length - 9 * (q + 1)) = chunk l q ++ l.drop (l.length - 9 * q) := by
      unfold chunk
      have h1 := List.take_append_drop (l.length - 9 * q - (l.length - 9 * (q + 1))) (l.drop (l.length - 9 * (q + 1)))
      rw [List.drop_drop, show l.length - 9 * (q + 1) + (l.length - 9 * q - (l.length - 9 * (q + 1))) = l.length - 9 * q by omega] at h1
      rw [← h1, List.take_drop, show l.length - 9 * (q + 1) + (l.length - 9 * q - (l.length - 9 * (q + 1))) = l.length - 9 * q by omega]
    rw [e, List.all_append, hc, h.2.2]; rfl
theorem tailRow_end {l : List UInt8} {q : Nat} {L : List Nat} (h : TailRow l q L) (hq : l.length ≤ 9 * q) : val L = dv 0 l ∧ Lo L ∧ l.all digB = true := by
  have ha : l.all digB = true := by have := h.2.2; rw [show l.length - 9 * q = 0 by omega, List.drop_zero] at this; exact this
  have e : ∀ q, q < L.length → nth L q = dv 0 (chunk l q) := fun j hj => h.2.1 j (by rw [← h.1]; exact hj)
  refine ⟨limbs_val L l e (by rw [h.1]; exact hq), lo_of fun j hj => ?_, ha⟩
  rw [e j hj]; exact chunk_lt ha j

end Go.Proofs.Ytdpiclmjdcjajaa

namespace Go.Proofs.Ytdpiclmjdcjajaa
open Go.RowKit Num

theorem chunk_snoc {l r : List UInt8} {b : UInt8} {j a : Nat} (h : l.drop j = b :: r) (ha : a ≤ j) : (l.take (j + 1)).drop a = (l.take j).drop a ++ [b] := by
  have hil : j < l.length := by
    rcases Nat.lt_or_ge j l.length with h1 | h1
    · exact h1
    · rw [List.drop_of_length_le h1] at h; cases h
  have e : l.take (j + 1) = l.take j ++ [b] := by
    rw [List.take_succ_eq_append_getElem hil]
    have := List.drop_eq_getElem_cons hil
    rw [h] at this
    injection this with h3 _
    rw [h3]
  rw [e, List.drop_append_of_le_length (by rw [List.length_take]; omega)]

set_option maxHeartbeats 4000000 in
set_option maxRecDepth 20000 in
theorem digits_main (s : ByteArray) (w : World) (h1 : 1 ≤ s.size) (h2 : s.size ≤ 200) : Calls Try.prog 53 #[.string s] w (DigP (digs s.data.toList) w) := by
  obtain ⟨i0, hi, hz0, hz1, hz2⟩ := info_parts Try.info58
  have h1' : ¬ (s.size : Int) < 1 := by omega
  go_enter Try.func53, Try.ntmps53
  go_wp2
  go_loopg [4, 5] (s.size + 8) (fun g v x wr => ∃ (q : Nat) (L : List Nat), 9 * q + g = s.size + 8 ∧ x = .int .i64 ((s.size : Int) - 9 * q) ∧ wr.ownsRow w.heap.size 58 1 v q (lims L) ∧ Hid (TailRow s.data.toList q L) ∧ Below w.heap.size w wr)
  case atStart => exact ⟨0, [], by omega, by simp, World.ownsRow_nil _ _ _ _, Lib.hid ⟨rfl, fun j hj => by omega, by rw [Nat.mul_zero, Nat.sub_zero, List.drop_length]; rfl⟩, Below.refl _ _⟩
  case round =>
    obtain ⟨q, L, hq, rfl, hown, HT, hbel⟩ := hrel
    obtain ⟨gk1, rfl⟩ : ∃ x, x = gk := ⟨_, rfl⟩
    by_cases hlt : 9 * q < s.size
    · obtain ⟨a, HA⟩ : ∃ a : Nat, Hid (a = s.data.toList.length - 9 * (q + 1)) := ⟨_, Lib.hid rfl⟩
      have ha2 : a ≤ s.size - 9 * q := by have := HA.out; rw [size_data] at this; omega
      have hbs := hbel.size
      have hlt' : 9 * (q : Int) < (s.size : Int) := by omega
      have hlt'' : decide (9 * (q : Int) < (s.size : Int)) = true := decide_eq_true hlt'
      by_cases hmx : 9 * (q + 1) < s.size
      · have hmi : 0 < (s.size : Int) - 9 * q - 9 := by omega
        have ha3 : a + 9 * q + 9 = s.size := by have := HA.out; rw [size_data] at this; omega
        go_wp2
        go_loopg [6, 7] (s.size - 9 * q - a) (fun g2 x y wy => ∃ j V : Nat, a ≤ j ∧ j + g2 = s.size - 9 * q ∧ y = .int .i64 j ∧ x = .int .u32 V ∧ Hid (V = dv 0 ((s.data.toList.take j).drop a) ∧ ((s.data.toList.take j).drop a).all digB = true) ∧ wr = wy)
        case atStart => exact ⟨a, 0, Nat.le_refl _, by omega, by first | rfl | (congr 1; omega), rfl, Lib.hid ⟨by rw [List.drop_of_length_le (by rw [List.length_take]; omega), dv_nil], by rw [List.drop_of_length_le (by rw [List.length_take]; omega)]; rfl⟩, rfl⟩
        case round =>
          obtain ⟨j, V, haj, hjg, rfl, rfl, HV, rfl⟩ := hrel
          have hl9 : ((s.data.toList.take j).drop a).length ≤ 9 := by rw [List.length_drop, List.length_take]; omega
          have hVb := dv_chunk HV.out.2 9 hl9
          rw [← HV.out.1] at hVb
          have hVc : V < 1000000000 := hVb
          clear hVb hl9
          cases gk with
          | zero =>
            have hje : (j : Int) = (s.size : Int) - 9 * q := by omega
            have hge : ¬ (j : Int) < (s.size : Int) - 9 * q := by omega
            have hch : (s.data.toList.take j).drop a = chunk s.data.toList q := by
              rw [HA.out]
              exact chunk_part s.data.toList q j (by rw [size_data]; omega)
            have HC := Lib.hid (show V = dv 0 (chunk s.data.toList q) ∧ (chunk s.data.toList q).all digB = true by rw [← hch]; exact HV.out)
            have HJ := Lib.hid hje
            clear hje hch hjg
            go_wp2_with (at_builtin; refine wpList_append_own _ rfl _ _ 22 rfl w.heap.size 58 i0 (.int .u32 0) 1 4 Try.underlying22 hi hz0 hz1 hz2 rfl (by decide) _ _ _ rfl (hown.alloc _) ⟨wr.heap.size, 0, none⟩ 1 1 [.int .u32 V] rfl rfl (cell_one_new _ _ _) (fun x hx => by simp at hx; subst hx; rfl) (by unfold maxLen; omega) (by omega) (by have := hbel.size; simp; omega) ?_; intro v' w3 hown3 hgrow3 hnil3)
            go_roundg (gk1 - 9)
            case measure => omega
            case rel =>
              refine ⟨q + 1, L ++ [V], by omega, by congr 1; omega, ?_, Lib.hid (by rw [HC.out.1]; exact tailRow_step HT.out HC.out.2), ?_⟩
              · rw [← lims_append]; exact hown3
              · exact (hbel.alloc hbel.size _).grown hgrow3 (hbel.alloc hbel.size _).size (fun k hk => (hown.lt k hk).1)
          | succ g2 =>
            have hlt2 : j < s.size := by omega
            have hje : (j : Int) < (s.size : Int) - 9 * q := by omega
            have hV8 : V < 100000000 := by
              have h8 := dv_chunk HV.out.2 8 (by rw [List.length_drop, List.length_take]; omega)
              rw [← HV.out.1] at h8
              exact h8
            obtain ⟨b, hb⟩ : ∃ b, s[j] = b := ⟨_, rfl⟩
            have HB := byte_drop s j hlt2
            rw [hb] at HB
            have HH := Lib.hid (And.intro HB (chunk_snoc HB haj))
            clear HB
            cases hd : digB b
            · have HD := Lib.hid hd
              have hor : (b.toNat : Int) < 48 ∨ (48 ≤ (b.toNat : Int) ∧ 57 < (b.toNat : Int)) := by
                have : ¬ (48 ≤ b.toNat ∧ b.toNat ≤ 57) := by rw [← digB_iff, hd]; simp
                omega
              clear hd
              rcases hor with hx | ⟨hx, hy⟩
              all_goals
                go_wp2
                go_ret2
                exact digP_none (digs_bad HH.out.1 HD.out) rfl hbel
            · obtain ⟨hx, hy⟩ := (digB_iff b).1 hd
              have HD := Lib.hid hd
              clear hd
              go_wp2
              go_roundg g2
              case measure => omega
              case rel => exact ⟨j + 1, V * 10 + (b.toNat - 48), by omega, by omega, by go_num, by congr 1; omega, Lib.hid ⟨by rw [HH.out.2, dv_snoc, ← HV.out.1]; omega, by rw [HH.out.2, List.all_append, HV.out.2]; simp [HD.out]⟩, rfl⟩
      · have hmi : (s.size : Int) - 9 * q - 9 ≤ 0 := by omega
        obtain rfl : a = 0 := by have := HA.out; rw [size_data] at this; omega
        have ha3 : s.size ≤ 9 * q + 9 := by omega
        go_wp2
        go_loopg [6, 7] (s.size - 9 * q - 0) (fun g2 x y wy => ∃ j V : Nat, 0 ≤ j ∧ j + g2 = s.size - 9 * q ∧ y = .int .i64 j ∧ x = .int .u32 V ∧ Hid (V = dv 0 ((s.data.toList.take j).drop 0) ∧ ((s.data.toList.take j).drop 0).all digB = true) ∧ wr = wy)
        case atStart => exact ⟨0, 0, Nat.le_refl _, by omega, by first | rfl | (congr 1; omega), rfl, Lib.hid ⟨by rw [List.drop_of_length_le (by rw [List.length_take]; omega), dv_nil], by rw [List.drop_of_length_le (by rw [List.length_take]; omega)]; rfl⟩, rfl⟩
        case round =>
          obtain ⟨j, V, haj, hjg, rfl, rfl, HV, rfl⟩ := hrel
          have hl9 : ((s.data.toList.take j).drop 0).length ≤ 9 := by rw [List.length_drop, List.length_take]; omega
          have hVb := dv_chunk HV.out.2 9 hl9
          rw [← HV.out.1] at hVb
          have hVc : V < 1000000000 := hVb
          clear hVb hl9
          cases gk with
          | zero =>
            have hje : (j : Int) = (s.size : Int) - 9 * q := by omega
            have hge : ¬ (j : Int) < (s.size : Int) - 9 * q := by omega
            have hch : (s.data.toList.take j).drop 0 = chunk s.data.toList q := by
              rw [HA.out]
              exact chunk_part s.data.toList q j (by rw [size_data]; omega)
            have HC := Lib.hid (show V = dv 0 (chunk s.data.toList q) ∧ (chunk s.data.toList q).all digB = true by rw [← hch]; exact HV.out)
            have HJ := Lib.hid hje
            clear hje hch hjg
            go_wp2_with (at_builtin; refine wpList_append_own _ rfl _ _ 22 rfl w.heap.size 58 i0 (.int .u32 0) 1 4 Try.underlying22 hi hz0 hz1 hz2 rfl (by decide) _ _ _ rfl (hown.alloc _) ⟨wr.heap.size, 0, none⟩ 1 1 [.int .u32 V] rfl rfl (cell_one_new _ _ _) (fun x hx => by simp at hx; subst hx; rfl) (by unfold maxLen; omega) (by omega) (by have := hbel.size; simp; omega) ?_; intro v' w3 hown3 hgrow3 hnil3)
            go_roundg (gk1 - 9)
            case measure => omega
            case rel =>
              refine ⟨q + 1, L ++ [V], by omega, by congr 1; omega, ?_, Lib.hid (by rw [HC.out.1]; exact tailRow_step HT.out HC.out.2), ?_⟩
              · rw [← lims_append]; exact hown3
              · exact (hbel.alloc hbel.size _).grown hgrow3 (hbel.alloc hbel.size _).size (fun k hk => (hown.lt k hk).1)
          | succ g2 =>
            have hlt2 : j < s.size := by omega
            have hje : (j : Int) < (s.size : Int) - 9 * q := by omega
            have hV8 : V < 100000000 := by
              have h8 := dv_chunk HV.out.2 8 (by rw [List.length_drop, List.length_take]; omega)
              rw [← HV.out.1] at h8
              exact h8
            obtain ⟨b, hb⟩ : ∃ b, s[j] = b := ⟨_, rfl⟩
            have HB := byte_drop s j hlt2
            rw [hb] at HB
            have HH := Lib.hid (And.intro HB (chunk_snoc HB haj))
            clear HB
            cases hd : digB b
            · have HD := Lib.hid hd
              have hor : (b.toNat : Int) < 48 ∨ (48 ≤ (b.toNat : Int) ∧ 57 < (b.toNat : Int)) := by
                have : ¬ (48 ≤ b.toNat ∧ b.toNat ≤ 57) := by rw [← digB_iff, hd]; simp
                omega
              clear hd
              rcases hor with hx | ⟨hx, hy⟩
              all_goals
                go_wp2
                go_ret2
                exact digP_none (digs_bad HH.out.1 HD.out) rfl hbel
            · obtain ⟨hx, hy⟩ := (digB_iff b).1 hd
              have HD := Lib.hid hd
              clear hd
              go_wp2
              go_roundg g2
              case measure => omega
              case rel => exact ⟨j + 1, V * 10 + (b.toNat - 48), by omega, by omega, by go_num, by congr 1; omega, Lib.hid ⟨by rw [HH.out.2, dv_snoc, ← HV.out.1]; omega, by rw [HH.out.2, List.all_append, HV.out.2]; simp [HD.out]⟩, rfl⟩
    · have hge : ¬ (0 : Int) < (s.size : Int) - 9 * q := by omega
      have hte := tailRow_end HT.out (by rw [size_data]; omega)
      have hg := digs_good (l := s.data.toList) (by rw [size_data]; exact h1) (by rw [size_data]; exact h2) hte.2.2
      have hlen : L.length = q := HT.out.1
      have hlim : Lim wr u4 L := lim_owns hown hlen (fun i => by have := hte.2.1 i; omega)
      have HE := Lib.hid (And.intro hte hg)
      clear hte hg hlen
      go_wp2_with (go_at_call 97; refine (cut_any _ _ _ hlim HE.out.1.2.1 (by have := HT.out.1; omega)).mono ?_; rintro e w' ⟨v', rfl, hnt, hb2⟩)
      go_ret2
      exact digP_some HE.out.2 rfl (by rw [← HE.out.1.1]; exact hnt) (hbel.trans (hb2.mono hbel.size))

set_option maxRecDepth 20000 in
theorem digits_any (s : ByteArray) (w : World) (hs : s.size ≤ 9223372036854775807) : Calls Try.prog 53 #[.string s] w (DigP (digs s.data.toList) w) := by
  by_cases h1 : 1 ≤ s.size
  · by_cases h2 : s.size ≤ 200
    · exact digits_main s w h1 h2
    · have h1' : ¬ (s.size : Int) < 1 := by omega
      have h3 : 200 < s.size := by omega
      have hg := Lib.hid (digs_long (l := s.data.toList) (.inr (by rw [size_data]; exact h3)))
      clear h2
      go_enter Try.func53, Try.ntmps53
      go_wp2
      go_ret2
      exact digP_none hg.out rfl (Below.refl _ _)
  · have h0 : (s.size : Int) < 1 := by omega
    have hg := Lib.hid (digs_long (l := s.data.toList) (.inl (by rw [size_data]; omega)))
    clear h1
    go_enter Try.func53, Try.ntmps53
    go_wp2
    go_ret2
    exact digP_none hg.out rfl (Below.refl _ _)

end Go.Proofs.Ytdpiclmjdcjajaa

