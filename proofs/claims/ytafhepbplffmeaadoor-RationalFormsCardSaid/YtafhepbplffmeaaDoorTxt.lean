/-
  Decimal digits, and the walks of parseNatural and of the reference's digits. Condition: the text's length is one that a string can have.
-/
import Derived.Test.YtafhepbplffmeaaDoorNum
import Derived.Test.YtafhepbplffmeaaDoorN1
import Derived.Lib.Strings
import Derived.Test.YtafhepbplffmeaaDoorQ1
import Derived.Deep.LoopGhost
import Derived.Lib.Bytealg
import Derived.Lib.Walk
import Derived.BigQuiet
import Derived.Deep.QuietTactic
import Derived.RegionTactic
import Derived.Test.YtafhepbplffmeaaDoorR3
import Derived.Test.YtafhepbplffmeaaDoorR6
import Derived.Test.YtafhepbplffmeaaDoorChecked
import Derived.Shelf.Strconv.AppendUint10
import Derived.Lib.ItoaLen
import Derived.Test.YtafhepbplffmeaaDoorQ7
import Derived.Test.YtafhepbplffmeaaDoorR12
import Derived.Lib.Slices
import Derived.Test.YtafhepbplffmeaaDoorFlow4
import Derived.Test.YtafhepbplffmeaaDoorC2
namespace Go.Proofs.YtafhepbplffmeaaDoor
open Num

def digB (b : UInt8) : Bool := decide (48 ≤ b.toNat ∧ b.toNat ≤ 57)
theorem digB_iff (b : UInt8) : digB b = true ↔ 48 ≤ b.toNat ∧ b.toNat ≤ 57 := by simp [digB]
def dstep (v : Nat) (b : UInt8) : Nat := 10 * v + (b.toNat - 48)
def dv (v : Nat) (l : List UInt8) : Nat := l.foldl dstep v
theorem dv_nil (v : Nat) : dv v [] = v := List.foldl_nil
theorem dv_cons (v : Nat) (b : UInt8) (r : List UInt8) : dv v (b :: r) = dv (10 * v + (b.toNat - 48)) r := by
  unfold dv; rw [List.foldl_cons]; unfold dstep; exact Eq.refl _
theorem dv_append (l m : List UInt8) (v : Nat) : dv v (l ++ m) = dv (dv v l) m := by
  induction l generalizing v with
  | nil => rfl
  | cons b r ih => rw [List.cons_append, dv_cons, dv_cons, ih]
theorem dv_snoc (l : List UInt8) (b : UInt8) (v : Nat) : dv v (l ++ [b]) = 10 * dv v l + (b.toNat - 48) := by rw [dv_append, dv_cons, dv_nil]
theorem dv_add (l : List UInt8) (v : Nat) : dv v l = v * 10 ^ l.length + dv 0 l := by
  induction l generalizing v with
  | nil => rw [dv_nil, dv_nil, List.length_nil, Nat.pow_zero, Nat.mul_one, Nat.add_zero]
  | cons b r ih =>
    generalize hd : b.toNat - 48 = d
    generalize hp : 10 ^ r.length = p at ih
    have h1 := ih (10 * v + d)
    have h2 := ih (10 * 0 + d)
    rw [dv_cons, dv_cons, hd, h1, h2, List.length_cons, Nat.pow_succ, hp]
    have e : (10 * v + d) * p = v * (p * 10) + d * p := by
      rw [Nat.add_mul, Nat.mul_comm 10 v, Nat.mul_assoc, Nat.mul_comm 10]
    rw [e, Nat.mul_zero, Nat.zero_add, Nat.add_assoc]
theorem dv_lt (l : List UInt8) (v : Nat) (h : l.all digB = true) : dv v l < (v + 1) * 10 ^ l.length := by
  induction l generalizing v with
  | nil => rw [dv_nil, List.length_nil, Nat.pow_zero]; omega
  | cons b r ih =>
    simp only [List.all_cons, Bool.and_eq_true] at h
    obtain ⟨h1, h2⟩ := (digB_iff b).1 h.1
    have hd : b.toNat - 48 ≤ 9 := by omega
    generalize b.toNat - 48 = d at hd
    have h3 := ih (10 * v + (b.toNat - 48)) h.2
    rw [dv_cons, List.length_cons, Nat.pow_succ]
    generalize 10 ^ r.length = p at h3 ⊢
    have e : (v + 1) * (p * 10) = (10 * v + 10) * p := by
      rw [Nat.mul_comm p 10, ← Nat.mul_assoc]; congr 1; omega
    rw [e]
    exact Nat.lt_of_lt_of_le h3 (Nat.mul_le_mul_right _ (by omega))
theorem dv_lt0 {l : List UInt8} (h : l.all digB = true) : dv 0 l < 10 ^ l.length := by
  have := dv_lt l 0 h
  simpa using this
theorem all_sub {l : List UInt8} (h : l.all digB = true) (i j : Nat) : ((l.take i).drop j).all digB = true := by
  rw [List.all_eq_true] at h ⊢
  exact fun x hx => h x (List.mem_of_mem_take (List.mem_of_mem_drop hx))
theorem dv_chunk {l : List UInt8} (h : l.all digB = true) (k : Nat) (hk : l.length ≤ k) : dv 0 l < 10 ^ k :=
  Nat.lt_of_lt_of_le (dv_lt0 h) (Nat.pow_le_pow_right (by omega) hk)

/-- The bytes of limb q, counted from the end, nine each. -/
def chunk (l : List UInt8) (q : Nat) : List UInt8 := (l.take (l.length - 9 * q)).drop (l.length - 9 * (q + 1))
/-- What of them stands among the first i bytes. -/
def part (l : List UInt8) (i q : Nat) : List UInt8 := ((l.take i).take (l.length - 9 * q)).drop (l.length - 9 * (q + 1))
theorem part_zero (l : List UInt8) (q : Nat) : part l 0 q = [] := by simp [part]
theorem part_all (l : List UInt8) (q : Nat) : part l l.length q = chunk l q := by unfold part chunk; rw [List.take_length]

theorem upper_step (l : List UInt8) (q : Nat) : dv 0 (l.take (l.length - 9 * q)) = dv 0 (chunk l q) + 1000000000 * dv 0 (l.take (l.length - 9 * (q + 1))) := by
  by_cases h : 9 ≤ l.length - 9 * q
  · have e : l.take (l.length - 9 * q) = l.take (l.length - 9 * (q + 1)) ++ chunk l q := by
      unfold chunk
      have e := List.take_append_drop (l.length - 9 * (q + 1)) (l.take (l.length - 9 * q))
      rw [List.take_take, show min (l.length - 9 * (q + 1)) (l.length - 9 * q) = l.length - 9 * (q + 1) by omega] at e
      exact e.symm
    have hl : (chunk l q).length = 9 := by unfold chunk; rw [List.length_drop, List.length_take]; omega
    rw [e, dv_append, dv_add, hl]
    rw [Nat.mul_comm, Nat.add_comm]
  · have e1 : l.length - 9 * (q + 1) = 0 := by omega
    unfold chunk
    rw [e1]
    simp [dv]

/-- Limbs that are the parts of a text of digits have its value. -/
theorem limbs_val (L : List Nat) (l : List UInt8) (h : ∀ q, q < L.length → nth L q = dv 0 (chunk l q)) (hn : l.length ≤ 9 * L.length) : val L = dv 0 l := by
  have key : ∀ j, j ≤ L.length → val (L.drop (L.length - j)) = dv 0 (l.take (l.length - 9 * (L.length - j))) := by
    intro j
    induction j with
    | zero =>
      intro _
      rw [Nat.sub_zero, List.drop_length, show l.length - 9 * L.length = 0 by omega]
      rfl
    | succ j ih =>
      intro hj
      have hi : L.length - (j + 1) < L.length := by omega
      have h1 := ih (by omega)
      have e : L.length - (j + 1) + 1 = L.length - j := by omega
      rw [val_drop L _ hi, e, h1, h _ hi, upper_step l (L.length - (j + 1)), e]
  have h0 := key L.length (Nat.le_refl _)
  rw [Nat.sub_self, List.drop_zero, Nat.mul_zero, Nat.sub_zero, List.take_length] at h0
  exact h0

theorem chunk_lt {l : List UInt8} (h : l.all digB = true) (q : Nat) : dv 0 (chunk l q) < 1000000000 := by
  have h1 := dv_chunk (all_sub h (l.length - 9 * q) (l.length - 9 * (q + 1))) 9 (by rw [List.length_drop, List.length_take]; omega)
  exact h1

/-- One byte more: its limb. -/
theorem part_same {l r : List UInt8} {b : UInt8} {i q : Nat} (hi : l.drop i = b :: r) (hq : (l.length - 1 - i) / 9 = q) : part l (i + 1) q = part l i q ++ [b] := by
  have hil : i < l.length := by
    rcases Nat.lt_or_ge i l.length with h | h
    · exact h
    · rw [List.drop_of_length_le h] at hi; cases hi
  unfold part
  have h1 : i + 1 ≤ l.length - 9 * q := by omega
  have h2 : l.length - 9 * (q + 1) ≤ i := by omega
  rw [List.take_take, List.take_take, show min (l.length - 9 * q) (i + 1) = i + 1 by omega, show min (l.length - 9 * q) i = i by omega]
  have e : l.take (i + 1) = l.take i ++ [b] := by
    rw [List.take_succ_eq_append_getElem hil]
    have := List.drop_eq_getElem_cons hil
    rw [hi] at this
    injection this with h3 _
    rw [h3]
  rw [e, List.drop_append_of_le_length (by rw [List.length_take]; omega)]
theorem part_other {l : List UInt8} {i q q' : Nat} (hil : i < l.length) (hq : (l.length - 1 - i) / 9 = q) (hne : q' ≠ q) : part l (i + 1) q' = part l i q' := by
  unfold part
  rw [List.take_take, List.take_take]
  rcases Nat.lt_or_gt_of_ne hne with h | h
  · rw [List.drop_of_length_le (by rw [List.length_take]; omega), List.drop_of_length_le (by rw [List.length_take]; omega)]
  · rw [show min (l.length - 9 * q') (i + 1) = min (l.length - 9 * q') i by omega]
theorem part_short {l : List UInt8} {i q : Nat} (hil : i < l.length) (hq : (l.length - 1 - i) / 9 = q) (h : (l.take i).all digB = true) : dv 0 (part l i q) < 100000000 := by
  have h1 := dv_chunk (l := part l i q) (all_sub h _ _) 8 (by unfold part; rw [List.length_drop, List.length_take, List.length_take]; omega)
  exact h1
theorem part_lt {l : List UInt8} {i : Nat} (q : Nat) (h : (l.take i).all digB = true) : dv 0 (part l i q) < 1000000000 := by
  have h1 := dv_chunk (l := part l i q) (all_sub h _ _) 9 (by unfold part; rw [List.length_drop, List.length_take, List.length_take]; omega)
  exact h1

/-- What a text of digits says: 1 to 200 of them. -/
def digs (l : List UInt8) : Option Nat := if 1 ≤ l.length ∧ l.length ≤ 200 ∧ l.all digB = true then some (dv 0 l) else none

end Go.Proofs.YtafhepbplffmeaaDoor

namespace Go.Proofs.YtafhepbplffmeaaDoor
open Go.RowKit Num

def DigP (o : Option Nat) (w : World) (e : Ending) (w' : World) : Prop :=
  (match o with
    | none => e = .returned (.tuple #[.slice none 0 0, .bool false])
    | some x => ∃ v, e = .returned (.tuple #[v, .bool true]) ∧ Nt w' v x) ∧ Below w.heap.size w w'
theorem digP_none {o : Option Nat} {w w' : World} {e : Ending} (h : o = none) (he : e = .returned (.tuple #[.slice none 0 0, .bool false])) (hb : Below w.heap.size w w') : DigP o w e w' := by
  subst h; exact ⟨he, hb⟩
theorem digP_some {o : Option Nat} {w w' : World} {e : Ending} {x : Nat} {v : Value} (h : o = some x) (he : e = .returned (.tuple #[v, .bool true])) (hn : Nt w' v x) (hb : Below w.heap.size w w') : DigP o w e w' := by
  subst h; exact ⟨⟨v, he, hn⟩, hb⟩

theorem size_data (s : ByteArray) : s.data.toList.length = s.size := by simp
theorem byte_drop (s : ByteArray) (k : Nat) (h : k < s.size) : s.data.toList.drop k = s[k] :: s.data.toList.drop (k + 1) := by
  rw [List.drop_eq_getElem_cons (by simpa using h)]; rfl
theorem take_snoc (s : ByteArray) (k : Nat) (h : k < s.size) : s.data.toList.take (k + 1) = s.data.toList.take k ++ [s[k]] := by
  rw [List.take_succ_eq_append_getElem (by simpa using h)]; rfl
theorem all_at {p : UInt8 → Bool} {l r : List UInt8} {b : UInt8} {k : Nat} (h : l.all p = true) (hd : l.drop k = b :: r) : p b = true :=
  List.all_eq_true.1 h b (List.mem_of_mem_drop (i := k) (by rw [hd]; simp))
theorem digs_long {l : List UInt8} (h : l.length = 0 ∨ 200 < l.length) : digs l = none := by unfold digs; rw [if_neg (by omega)]
theorem digs_bad {l r : List UInt8} {b : UInt8} {k : Nat} (hd : l.drop k = b :: r) (hb : digB b = false) : digs l = none := by
  unfold digs
  rw [if_neg]
  intro h
  have := all_at h.2.2 hd
  rw [hb] at this; cases this
theorem digs_good {l : List UInt8} (h1 : 1 ≤ l.length) (h2 : l.length ≤ 200) (h3 : l.all digB = true) : digs l = some (dv 0 l) := by unfold digs; rw [if_pos ⟨h1, h2, h3⟩]

/-- The row of limbs when the first i digits are read. -/
def PartRow (l : List UInt8) (i m : Nat) (L : List Nat) : Prop := L.length = m ∧ ∀ q, q < m → nth L q = dv 0 (part l i q)
theorem partRow_zero (l : List UInt8) (m : Nat) : PartRow l 0 m (List.replicate m 0) :=
  ⟨by simp, fun q _ => by rw [nth_replicate, part_zero, dv_nil]⟩
theorem partRow_step {l r : List UInt8} {b : UInt8} {i m q : Nat} {L : List Nat} (h : PartRow l i m L) (hi : l.drop i = b :: r) (hil : i < l.length) (hq : (l.length - 1 - i) / 9 = q) (hqm : q < m) :
    PartRow l (i + 1) m (L.set q (nth L q * 10 + (b.toNat - 48))) := by
  refine ⟨by rw [List.length_set]; exact h.1, fun q' hq' => ?_⟩
  rw [nth_set _ _ _ _ (by rw [h.1]; exact hqm)]
  by_cases e : q' = q
  · subst e
    rw [if_pos rfl, part_same hi hq, dv_snoc, h.2 _ hqm]; omega
  · rw [if_neg e, part_other hil hq e, h.2 q' hq']
theorem partRow_end {l : List UInt8} {m : Nat} {L : List Nat} (h : PartRow l l.length m L) (ha : l.all digB = true) (hm : l.length ≤ 9 * m) : val L = dv 0 l ∧ Lo L := by
  have e : ∀ q, q < L.length → nth L q = dv 0 (chunk l q) := fun q hq => by rw [h.2 q (by rw [← h.1]; exact hq), part_all]
  refine ⟨limbs_val L l e (by rw [h.1]; exact hm), lo_of fun q hq => ?_⟩
  rw [e q hq]; exact chunk_lt ha q

set_option maxHeartbeats 1000000 in
set_option maxRecDepth 20000 in
theorem parseNat_main (s : ByteArray) (w : World) (h1 : 1 ≤ s.size) (h2 : s.size ≤ 200) : Calls Tryd.prog 25 #[.string s] w (DigP (digs s.data.toList) w) := by
  obtain ⟨i0, hi, hz0, hz1, hz2⟩ := info_parts Tryd.info32
  obtain ⟨m, hm⟩ : ∃ m : Nat, ((s.size : Int) + 9 - 1) / 9 = (m : Int) := ⟨(s.size + 8) / 9, by omega⟩
  have hm1 : s.size ≤ 9 * m := by omega
  have hm2 : m ≤ 30 := by omega
  have h0 : ((s.size : Int) == 0) = false := by rw [beq_eq_false_iff_ne]; omega
  go_enter Tryd.func25, Tryd.ntmps25
  go_wp2_with (at_make; refine wpList_make_full _ rfl _ _ 46 rfl w.heap.size 32 i0 (.int .u32 0) 1 Tryd.underlying46 hi hz0 hz1 _ _ _ _ m rfl rfl (by omega) (by omega) ?b2 ?b3 (Nat.le_refl _) ?_)
  case b2 => rw [hz2]; omega
  case b3 => unfold maxLen; omega
  intro w0 hown0 hgrow0
  have hown : Own w0 w.heap.size w.heap.size m (List.replicate m 0) := own_made hown0 (by omega)
  have hbel : Below w.heap.size w w0 := (Below.refl _ _).grown hgrow0 (Nat.le_refl _) (fun k h => by cases h)
  clear hown0 hgrow0 hi hz0 hz1 hz2 hm
  go_wp2
  go_loopw [24] (fun i wr => ∃ (k : Nat) (L : List Nat), k ≤ s.size ∧ i = .int .i64 k ∧ Own wr w.heap.size w.heap.size m L ∧ Hid (PartRow s.data.toList k m L ∧ (s.data.toList.take k).all digB = true) ∧ Below w.heap.size w wr) (fun i _ => s.size - (intOf i).toNat)
  case atStart => exact ⟨0, _, Nat.zero_le _, rfl, hown, Lib.hid ⟨partRow_zero _ _, by simp⟩, hbel⟩
  case round =>
    obtain ⟨k, L, hk, rfl, hown, HP, hbel⟩ := hrel
    by_cases hlt : k < s.size
    · obtain ⟨b, hb⟩ : ∃ b, s[k] = b := ⟨_, rfl⟩
      have HB := byte_drop s k hlt
      have HT := take_snoc s k hlt
      rw [hb] at HB HT
      have HH := Lib.hid (And.intro HB HT)
      clear HB HT
      cases hd : digB b
      · have HD := Lib.hid hd
        have hor : (b.toNat : Int) < 48 ∨ (48 ≤ (b.toNat : Int) ∧ 57 < (b.toNat : Int)) := by
          have : ¬ (48 ≤ b.toNat ∧ b.toNat ≤ 57) := by rw [← digB_iff, hd]; simp
          omega
        clear hd
        rcases hor with hx | ⟨hx, hy⟩
        all_goals
          go_wp2
          go_ret2
          exact digP_none (digs_bad HH.out.1 HD.out) rfl hbel
      · obtain ⟨hx, hy⟩ := (digB_iff b).1 hd
        have HD := Lib.hid hd
        clear hd
        obtain ⟨q, hq⟩ : ∃ q : Nat, ((s.size : Int) - 1 - (k : Int)) / 9 = (q : Int) := ⟨(s.size - 1 - k) / 9, by omega⟩
        have hq2 : (s.data.toList.length - 1 - k) / 9 = q := by rw [size_data]; omega
        have hqm : q < m := by omega
        have hcell := hown.cell q hqm
        have hfr := hown.frozen q
        have hsh := part_short (by rw [size_data]; exact hlt) hq2 HP.out.2
        rw [← HP.out.1.2 q hqm] at hsh
        have HS := Lib.hid (And.intro hown (And.intro hbel hq2))
        clear hown hbel hq2
        go_wp2
        go_roundw
        case rel =>
          obtain ⟨hown, hbel, hq2⟩ := HS.out
          refine ⟨k + 1, L.set q (nth L q * 10 + (b.toNat - 48)), by omega, by go_num, hown.store' q _ _ (by omega) (by omega), Lib.hid ⟨partRow_step HP.out.1 HH.out.1 (by rw [size_data]; exact hlt) hq2 hqm, ?_⟩, hbel.setCell (Nat.le_refl _) _⟩
          rw [HH.out.2, List.all_append, HP.out.2]; simp [HD.out]
        case measure => simp [intOf]; omega
    · obtain rfl : k = s.size := by omega
      have hpe := partRow_end (l := s.data.toList) (m := m) (L := L) (by rw [size_data]; exact HP.out.1) (by have := HP.out.2; rw [List.take_of_length_le (by rw [size_data]; exact Nat.le_refl _)] at this; exact this) (by rw [size_data]; exact hm1)
      have hg := digs_good (l := s.data.toList) (by rw [size_data]; exact h1) (by rw [size_data]; exact h2) (by have := HP.out.2; rw [List.take_of_length_le (by rw [size_data]; exact Nat.le_refl _)] at this; exact this)
      have HE := Lib.hid (And.intro hpe hg)
      clear hpe hg
      go_wp2_with (go_at_call 46; refine (trim_any _ _ _ hown.lim HE.out.1.2).mono ?_; rintro e w' ⟨v', rfl, hnt, rfl⟩)
      go_ret2
      exact digP_some HE.out.2 rfl (by rw [← HE.out.1.1]; exact hnt) hbel

set_option maxRecDepth 20000 in
theorem parseNat_any (s : ByteArray) (w : World) (hs : s.size ≤ 9223372036854775807) : Calls Tryd.prog 25 #[.string s] w (DigP (digs s.data.toList) w) := by
  by_cases h1 : 1 ≤ s.size
  · by_cases h2 : s.size ≤ 200
    · exact parseNat_main s w h1 h2
    · have h0 : ((s.size : Int) == 0) = false := by rw [beq_eq_false_iff_ne]; omega
      have h3 : 200 < s.size := by omega
      have hg := Lib.hid (digs_long (l := s.data.toList) (.inr (by rw [size_data]; exact h3)))
      clear h2
      go_enter Tryd.func25, Tryd.ntmps25
      go_wp2
      go_ret2
      exact digP_none hg.out rfl (Below.refl _ _)
  · have h0 : ((s.size : Int) == 0) = true := by rw [beq_iff_eq]; omega
    have hg := Lib.hid (digs_long (l := s.data.toList) (.inl (by rw [size_data]; omega)))
    clear h1
    go_enter Tryd.func25, Tryd.ntmps25
    go_wp2
    go_ret2
    exact digP_none hg.out rfl (Below.refl _ _)

/-- The limbs from the end: q of them are read. -/
def TailRow (l : List UInt8) (q : Nat) (L : List Nat) : Prop := L.length = q ∧ (∀ j, j < q → nth L j = dv 0 (chunk l j)) ∧ (l.drop (l.length - 9 * q)).all digB = true
theorem chunk_part (l : List UInt8) (q i : Nat) (h : i = l.length - 9 * q) : (l.take i).drop (l.length - 9 * (q + 1)) = chunk l q := by subst h; rfl
theorem tailRow_step {l : List UInt8} {q : Nat} {L : List Nat} (h : TailRow l q L) (hc : (chunk l q).all digB = true) : TailRow l (q + 1) (L ++ [dv 0 (chunk l q)]) := by
  refine ⟨by rw [List.length_append, h.1]; rfl, fun j hj => ?_, ?_⟩
  · rcases Nat.lt_or_eq_of_le (Nat.le_of_lt_succ hj) with h1 | h1
    · rw [nth_append_left _ _ _ (by rw [h.1]; exact h1)]; exact h.2.1 j h1
    · subst h1
      have e := nth_append_right L [dv 0 (chunk l j)] 0
      rw [h.1, Nat.add_zero] at e
      rw [e]; rfl
  · have e : l.drop (l.length - 9 * (q + 1)) = chunk l q ++ l.drop (l.length - 9 * q) := by
      unfold chunk
      have h1 := List.take_append_drop (l.length - 9 * q - (l.length - 9 * (q + 1))) (l.drop (l.length - 9 * (q + 1)))
      rw [List.drop_drop, show l.length - 9 * (q + 1) + (l.length - 9 * q - (l.length - 9 * (q + 1))) = l.length - 9 * q by omega] at h1
      rw [← h1, List.take_drop, show l.length - 9 * (q + 1) + (l.length - 9 * q - (l.length - 9 * (q + 1))) = l.length - 9 * q by omega]
    rw [e, List.all_append, hc, h.2.2]; rfl
theorem tailRow_end {l : List UInt8} {q : Nat} {L : List Nat} (h : TailRow l q L) (hq : l.length ≤ 9 * q) : val L = dv 0 l ∧ Lo L ∧ l.all digB = true := by
  have ha : l.all digB = true := by have := h.2.2; rw [show l.length - 9 * q = 0 by omega, List.drop_zero] at this; exact this
  have e : ∀ q, q < L.length → nth L q = dv 0 (chunk l q) := fun j hj => h.2.1 j (by rw [← h.1]; exact hj)
  refine ⟨limbs_val L l e (by rw [h.1]; exact hq), lo_of fun j hj => ?_, ha⟩
  rw [e j hj]; exact chunk_lt ha j

end Go.Proofs.YtafhepbplffmeaaDoor

namespace Go.Proofs.YtafhepbplffmeaaDoor
open Go.RowKit Num

theorem chunk_snoc {l r : List UInt8} {b : UInt8} {j a : Nat} (h : l.drop j = b :: r) (ha : a ≤ j) : (l.take (j + 1)).drop a = (l.take j).drop a ++ [b] := by
  have hil : j < l.length := by
    rcases Nat.lt_or_ge j l.length with h1 | h1
    · exact h1
    · rw [List.drop_of_length_le h1] at h; cases h
  have e : l.take (j + 1) = l.take j ++ [b] := by
    rw [List.take_succ_eq_append_getElem hil]
    have := List.drop_eq_getElem_cons hil
    rw [h] at this
    injection this with h3 _
    rw [h3]
  rw [e, List.drop_append_of_le_length (by rw [List.length_take]; omega)]

end Go.Proofs.YtafhepbplffmeaaDoor

/-
  The walks of CutPrefix at a minus, of Cut at a slash, and of Parse. Conditions: as each says.
-/
namespace Go.Proofs.YtafhepbplffmeaaDoor
open Go.RowKit Num

/-- What a quiet function answers. -/
def Ans (w : World) (v : Value) (e : Ending) (w' : World) : Prop := e = .returned v ∧ w = w'
theorem str_mk {s : ByteArray} {l : List UInt8} (h : s.data.toList = l) : s = ⟨l.toArray⟩ := by subst h; rfl

def preB (p l : List UInt8) : Bool := p.isPrefixOf l
theorem hasPrefixIn_any (s t : ByteArray) (w : World) : Calls Tryd.prog 58 #[.string s, .string t] w (Ans w (.bool (preB t.data.toList s.data.toList))) := by
  by_cases hle : t.size ≤ s.size
  · obtain ⟨q, hq⟩ : ∃ q, ((s.extract 0 t.size).toList == t.toList) = q := ⟨_, rfl⟩
    have hp : preB t.data.toList s.data.toList = q := by
      unfold preB
      have h1 := Lib.hasPrefix_of_take s.data.toList t.data.toList
      unfold Lib.hasPrefix at h1
      rw [← h1, ← hq, Lib.toList_data, Lib.toList_data, Lib.extract_data, size_data, size_data, decide_eq_true hle]
      simp
    rw [hp]
    clear hp
    cases q
    all_goals
      go_enter Tryd.func58, Tryd.ntmps58
      go_wp2
      go_ret
      exact ⟨rfl, rfl⟩
  · have hp : preB t.data.toList s.data.toList = false := by
      unfold preB
      rw [← Bool.not_eq_true, List.isPrefixOf_iff_prefix]
      intro h
      have := h.length_le
      rw [size_data, size_data] at this
      omega
    rw [hp]
    go_enter Tryd.func58, Tryd.ntmps58
    go_wp2
    go_ret
    exact ⟨rfl, rfl⟩

/-- The text behind a minus. -/
def negB (l : List UInt8) : Bool := preB [45] l
def body (s : ByteArray) : ByteArray := if negB s.data.toList then s.extract 1 s.size else s

theorem cutPrefixIn_any (s : ByteArray) (w : World) : Calls Tryd.prog 44 #[.string s, .string ⟨#[45]⟩] w (Ans w (.tuple #[.string (body s), .bool (negB s.data.toList)])) := by
  have cp := fun w => hasPrefixIn_any s ⟨#[45]⟩ w
  obtain ⟨q, hq⟩ : ∃ q, negB s.data.toList = q := ⟨_, rfl⟩
  have hq2 : preB (ByteArray.mk #[45]).data.toList s.data.toList = q := hq
  rw [hq2] at cp
  unfold body
  rw [hq]
  cases q
  · clear hq hq2
    go_enter Tryd.func44, Tryd.ntmps44
    go_wp2_with (go_at_call 58; refine (cp _).mono ?_; rintro e w' ⟨rfl, rfl⟩)
    go_ret2
    exact ⟨rfl, rfl⟩
  · have hs : 1 ≤ s.size := by
      unfold preB at hq2
      rw [List.isPrefixOf_iff_prefix] at hq2
      have := hq2.length_le
      rw [size_data] at this
      exact this
    clear hq hq2
    go_enter Tryd.func44, Tryd.ntmps44
    go_wp2_with (go_at_call 58; refine (cp _).mono ?_; rintro e w' ⟨rfl, rfl⟩)
    go_ret2
    exact ⟨rfl, rfl⟩
theorem cutPrefix_any (s : ByteArray) (w : World) : Calls Tryd.prog 23 #[.string s, .string ⟨#[45]⟩] w (Ans w (.tuple #[.string (body s), .bool (negB s.data.toList)])) := by
  go_enter Tryd.func23, Tryd.ntmps23
  go_wp2_with (go_at_call 44; refine (cutPrefixIn_any s _).mono ?_; rintro e w' ⟨rfl, rfl⟩)
  go_ret2
  exact ⟨rfl, rfl⟩

set_option maxHeartbeats 1000000 in
set_option maxRecDepth 100000 in
theorem indexByte_any (s : ByteArray) (c : Int) (w : World) : Calls Tryd.prog 77 #[.string s, .int .u8 c] w (Ans w (.int .i64 (Lib.indexByte s.data.toList c.toNat.toUInt8))) := by
  go_enter Tryd.func77, Tryd.ntmps77
  go_wp2
  rw [run_callFunc_extern Tryd.func90 (by kernel_rfl) (by kernel_rfl) (by kernel_rfl) (e := Extern.BytealgIndexByte.indexByte) (by kernel_rfl), Lib.run_indexByteString]
  simp only [Result.andThen]
  rw [Oper.upon_value]
  go_wp2
  go_ret
  exact ⟨rfl, rfl⟩

/-- Where the slash is; -1 where there is none. -/
def slash (l : List UInt8) : Int := Lib.indexByte l 47
theorem index_any (s : ByteArray) (w : World) : Calls Tryd.prog 59 #[.string s, .string ⟨#[47]⟩] w (Ans w (.int .i64 (slash s.data.toList))) := by
  have ci := fun w => indexByte_any s 47 w
  obtain ⟨z, hz⟩ : ∃ z, slash s.data.toList = z := ⟨_, rfl⟩
  have hz2 : Lib.indexByte s.data.toList ((47 : Int).toNat.toUInt8) = z := hz
  rw [hz2] at ci
  rw [hz]
  have hself : ([47] == s.toList) = true → z = 0 := by
    intro h
    rw [Lib.toList_data] at h
    rw [← hz, ← eq_of_beq h]; rfl
  clear hz hz2
  obtain ⟨q, hq⟩ : ∃ q, ([47] == s.toList) = q := ⟨_, rfl⟩
  rw [hq] at hself
  cases q
  · clear hself
    go_enter Tryd.func59, Tryd.ntmps59
    go_wp2_with (go_at_call 77; refine (ci _).mono ?_; rintro e w' ⟨rfl, rfl⟩)
    go_ret
    exact ⟨rfl, rfl⟩
  · obtain rfl := hself rfl
    go_enter Tryd.func59, Tryd.ntmps59
    go_wp2
    go_ret
    exact ⟨rfl, rfl⟩

theorem index_tw : ∀ (l : List UInt8) (c : UInt8), (Lib.indexByte l c = -1 ∧ l.takeWhile (fun b => b != c) = l) ∨ (Lib.indexByte l c = (l.takeWhile (fun b => b != c)).length ∧ ∃ r, l.drop (l.takeWhile (fun b => b != c)).length = c :: r)
  | [], c => .inl ⟨rfl, rfl⟩
  | b :: l, c => by
    unfold Lib.indexByte
    by_cases h : b = c
    · subst h
      right
      rw [if_pos (by simp), List.takeWhile_cons_of_neg (by simp)]
      exact ⟨rfl, l, rfl⟩
    · rw [if_neg (by simpa using h), List.takeWhile_cons_of_pos (by simpa using h)]
      rcases index_tw l c with ⟨h1, h2⟩ | ⟨h1, r, h2⟩
      · left; rw [h1, h2]; exact ⟨rfl, rfl⟩
      · right
        rw [h1, if_neg (by rw [beq_iff_eq]; omega)]
        exact ⟨by simp, r, h2⟩

/-- The part before the slash, and what stands behind it. -/
def fore (l : List UInt8) : List UInt8 := l.takeWhile (fun b => b != 47)
def aft (l : List UInt8) : List UInt8 := l.drop ((fore l).length + 1)

set_option maxHeartbeats 1000000 in
theorem cutIn_any (s : ByteArray) (w : World) (hs : s.size ≤ 9223372036854775807) : Calls Tryd.prog 45 #[.string s, .string ⟨#[47]⟩] w fun e w' =>
    e = .returned (.tuple #[.string ⟨(fore s.data.toList).toArray⟩, .string ⟨(if 0 ≤ slash s.data.toList then aft s.data.toList else []).toArray⟩, .bool (decide (0 ≤ slash s.data.toList))]) ∧ Below w.heap.size w w' := by
  have ci := fun w => index_any s w
  rcases index_tw s.data.toList 47 with ⟨h1, h2⟩ | ⟨h1, r, h2⟩
  · have hz : slash s.data.toList = -1 := h1
    rw [hz] at ci ⊢
    have hf : fore s.data.toList = s.data.toList := h2
    rw [hf, if_neg (by omega), decide_eq_false (by omega), ← str_mk (s := s) rfl]
    clear h1 h2 hz hf
    go_enter Tryd.func45, Tryd.ntmps45
    go_wp2_with (go_at_call 59; refine (ci _).mono ?_; rintro e w' ⟨rfl, rfl⟩)
    go_ret3
    exact ⟨rfl, Below.refl _ _⟩
  · have hz : slash s.data.toList = ((fore s.data.toList).length : Int) := h1
    have hd : s.data.toList.drop (fore s.data.toList).length = 47 :: r := h2
    obtain ⟨k, hk⟩ : ∃ k, (fore s.data.toList).length = k := ⟨_, rfl⟩
    have hks : k < s.size := by
      rw [hk] at hd
      rw [← size_data]
      rcases Nat.lt_or_ge k s.data.toList.length with h | h
      · exact h
      · rw [List.drop_of_length_le h] at hd; cases hd
    have e1 : s.extract 0 k = ⟨(fore s.data.toList).toArray⟩ := str_mk (by
      rw [Lib.extract_data, List.drop_zero, Nat.sub_zero]
      unfold fore at hk ⊢
      rw [← hk]
      exact (List.prefix_iff_eq_take.1 (List.takeWhile_prefix _)).symm)
    have e2 : s.extract (k + 1) s.size = ⟨(aft s.data.toList).toArray⟩ := str_mk (by
      rw [Lib.extract_data, List.take_of_length_le (by rw [List.length_drop, size_data]; omega)]
      unfold aft
      rw [hk])
    rw [hz, hk] at ci ⊢
    rw [if_pos (by omega), decide_eq_true (by omega), ← e1, ← e2]
    clear h1 h2 hz hd hk e1 e2
    go_enter Tryd.func45, Tryd.ntmps45
    go_wp2_with (go_at_call 59; refine (ci _).mono ?_; rintro e w' ⟨rfl, rfl⟩)
    have y1 : IntKind.i64.wrap ((k : Int) + 1) = (k : Int) + 1 := IntWalk.i64_in _ (by omega)
    have y2 : 0 ≤ (k : Int) + 1 := by omega
    have y3 : ((k : Int) + 1).toNat = k + 1 := by omega
    have y4 : (k : Int) + 1 ≤ (s.size : Int) := by omega
    have y5 : (k : Int) ≤ (s.size : Int) := by omega
    go_quiet (fail)
    go_wp2
    go_ret3
    exact ⟨rfl, ⟨rfl, rfl, rfl, Nat.le_refl _, fun _ _ => rfl⟩⟩
theorem cut_any' (s : ByteArray) (w : World) (hs : s.size ≤ 9223372036854775807) : Calls Tryd.prog 24 #[.string s, .string ⟨#[47]⟩] w fun e w' =>
    e = .returned (.tuple #[.string ⟨(fore s.data.toList).toArray⟩, .string ⟨(if 0 ≤ slash s.data.toList then aft s.data.toList else []).toArray⟩, .bool (decide (0 ≤ slash s.data.toList))]) ∧ Below w.heap.size w w' := by
  have cc := fun w => cutIn_any s w hs
  obtain ⟨a, ha⟩ : ∃ a : ByteArray, (⟨(fore s.data.toList).toArray⟩ : ByteArray) = a := ⟨_, rfl⟩
  obtain ⟨b, hb⟩ : ∃ b : ByteArray, (⟨(if 0 ≤ slash s.data.toList then aft s.data.toList else []).toArray⟩ : ByteArray) = b := ⟨_, rfl⟩
  obtain ⟨q, hq⟩ : ∃ q, decide (0 ≤ slash s.data.toList) = q := ⟨_, rfl⟩
  rw [ha, hb, hq]
  simp only [ha, hb, hq] at cc
  clear ha hb hq
  go_enter Tryd.func24, Tryd.ntmps24
  go_wp2_with (go_at_call 45; refine (cc _).mono ?_; rintro e w' ⟨rfl, hb⟩)
  go_ret3
  exact ⟨rfl, by assumption⟩

end Go.Proofs.YtafhepbplffmeaaDoor

namespace Go.Proofs.YtafhepbplffmeaaDoor
open Go.RowKit Num

def ZRat : Value := .agg #[.bool false, .slice none 0 0, .slice none 0 0]
def ParseP (o : Option Rat) (w : World) (e : Ending) (w' : World) : Prop :=
  (match o with
    | none => e = .returned (.tuple #[.agg #[.bool false, .slice none 0 0, .slice none 0 0], .bool false])
    | some q => ∃ v, e = .returned (.tuple #[v, .bool true]) ∧ RatC w' v q) ∧ Below w.heap.size w w'

theorem pow_pw : (10 : Nat) ^ 200 ≤ pw 23 := by
  unfold pw
  rw [show (1000000000 : Nat) = 10 ^ 9 from rfl, ← Nat.pow_mul]
  exact Nat.pow_le_pow_right (by omega) (by omega)
theorem digs_lt {l : List UInt8} {x : Nat} (h : digs l = some x) : x < pw 23 := by
  unfold digs at h
  split at h
  · rename_i h1
    injection h with h
    rw [← h]
    exact Nat.lt_of_lt_of_le (dv_chunk h1.2.2 200 h1.2.1) pow_pw
  · cases h

/-- The callees' answers, whatever the text. -/
structure ParseC (s b num den : ByteArray) (neg q : Bool) (o1 o2 : Option Nat) : Prop where
  cp : ∀ w, Calls Tryd.prog 23 #[.string s, .string ⟨#[45]⟩] w (Ans w (.tuple #[.string b, .bool neg]))
  cc : ∀ w, Calls Tryd.prog 24 #[.string b, .string ⟨#[47]⟩] w fun e w' => e = .returned (.tuple #[.string num, .string den, .bool q]) ∧ Below w.heap.size w w'
  p1 : ∀ w, Calls Tryd.prog 25 #[.string num] w (DigP o1 w)
  p2 : ∀ w, Calls Tryd.prog 25 #[.string den] w (DigP o2 w)

theorem DigP.none_ {w : World} {e : Ending} {w' : World} (h : DigP none w e w') : e = .returned (.tuple #[.slice none 0 0, .bool false]) ∧ Below w.heap.size w w' := h
theorem DigP.some_ {w : World} {e : Ending} {w' : World} {x : Nat} (h : DigP (some x) w e w') : ∃ a n c, e = .returned (.tuple #[.slice a n c, .bool true]) ∧ Nt w' (.slice a n c) x ∧ Below w.heap.size w w' := by
  obtain ⟨⟨v, he, hn⟩, hb⟩ := h
  obtain ⟨a, n, c, rfl⟩ := hn.shape
  exact ⟨a, n, c, he, hn, hb⟩

set_option maxHeartbeats 4000000 in
theorem parse_none {s b num den : ByteArray} {neg q : Bool} {o2 : Option Nat} (H : ParseC s b num den neg q none o2) (w : World) : Calls Tryd.prog 10 #[.string s] w (ParseP none w) := by
  have HH := Lib.hid H
  clear H
  go_enter Tryd.func10, Tryd.ntmps10
  go_wp2_with fail
  obtain ⟨W0, hW0⟩ : ∃ W0, w.alloc (.cells #[.bool false, .slice none 0 0, .slice none 0 0] 24) = W0 := ⟨_, rfl⟩
  have hbw : Below w.heap.size w W0 := by rw [← hW0]; exact below_alloc1 _ _
  have hB : BoxV W0 w.heap.size w.heap.size 24 [.bool false, .slice none 0 0, .slice none 0 0] := by rw [← hW0]; exact BoxV.new w w.heap.size 24 (Nat.le_refl _) [.bool false, .slice none 0 0, .slice none 0 0]
  rw [hW0]
  clear hW0
  have HX := Lib.hid (And.intro hbw hB)
  clear hbw hB
  refine (HH.out.cp _).mono ?_
  rintro e w1 ⟨rfl, rfl⟩
  go_wp2_with fail
  refine (HH.out.cc _).mono ?_
  rintro e w1 ⟨rfl, hb1⟩
  go_wp2_with fail
  refine (HH.out.p1 _).mono ?_
  intro e w2 h2
  obtain ⟨rfl, hb2⟩ := h2.none_
  have hbw := below_next' HX.out.1 (hb1.trans (hb2.mono hb1.size))
  have hB2 := (HX.out.2.below hb1).below hb2
  obtain ⟨⟨t0, t1, t2⟩, i0, i1, i2⟩ := hB2.three
  have HF := Lib.hid (And.intro hbw hB2)
  clear hb1 hb2 h2 hbw hB2
  go_wp2
  refine bodyPost_ret (v := .tuple #[.agg #[.bool false, .slice none 0 0, .slice none 0 0], .bool false]) (by simp [results, Tryd.results10, go_sem, t0, t1, t2]) rfl ⟨rfl, below_set3 HF.out.1 (by omega) _ _ _⟩

set_option maxHeartbeats 4000000 in
theorem parse_whole {s b num den : ByteArray} {neg : Bool} {n : Nat} {o2 : Option Nat} (H : ParseC s b num den neg false (some n) o2) (hn : n < pw 23) (w : World) : Calls Tryd.prog 10 #[.string s] w (ParseP (some (rat neg n 1)) w) := by
  have HH := Lib.hid H
  clear H
  go_enter Tryd.func10, Tryd.ntmps10
  go_wp2_with fail
  obtain ⟨W0, hW0⟩ : ∃ W0, w.alloc (.cells #[.bool false, .slice none 0 0, .slice none 0 0] 24) = W0 := ⟨_, rfl⟩
  have hbw : Below w.heap.size w W0 := by rw [← hW0]; exact below_alloc1 _ _
  have hB : BoxV W0 w.heap.size w.heap.size 24 [.bool false, .slice none 0 0, .slice none 0 0] := by rw [← hW0]; exact BoxV.new w w.heap.size 24 (Nat.le_refl _) [.bool false, .slice none 0 0, .slice none 0 0]
  rw [hW0]
  clear hW0
  have HX := Lib.hid (And.intro hbw hB)
  clear hbw hB
  refine (HH.out.cp _).mono ?_
  rintro e w1 ⟨rfl, rfl⟩
  go_wp2_with fail
  refine (HH.out.cc _).mono ?_
  rintro e w1 ⟨rfl, hb1⟩
  go_wp2_with fail
  refine (HH.out.p1 _).mono ?_
  intro e w2 h2
  obtain ⟨a1, n1, c1, rfl, hn1, hb2⟩ := h2.some_
  have hbw := below_next' HX.out.1 (hb1.trans (hb2.mono hb1.size))
  have hB2 := (HX.out.2.below hb1).below hb2
  have HG := Lib.hid (And.intro hbw (And.intro hB2 hn1))
  clear hb1 hb2 h2 hbw hB2 hn1
  go_wp2_with fail
  obtain ⟨W3, hW3⟩ : ∃ W3, w2.alloc (.cells #[.int .u32 1] 32) = W3 := ⟨_, rfl⟩
  have hb3 : Below w2.heap.size w2 W3 := by rw [← hW3]; exact below_alloc1 _ _
  have hone : W3.cell? ⟨w2.heap.size, 0, none⟩ = some (.int .u32 1) := by rw [← hW3, World.cell?_alloc_new]; rfl
  rw [hW3]
  clear hW3
  have hB3 := HG.out.2.1.below hb3
  have hbw3 := below_next' HG.out.1 hb3
  have hcan := canonical_any neg a1 _ n1 c1 1 1 n 1 23 W3 (HG.out.2.2.below hb3) (lim_one hone) (by omega) hn (Nat.lt_of_lt_of_le (by decide : 1 < pw 1) (pw_le (by omega))) (by omega)
  have HK := Lib.hid (And.intro hcan (And.intro hB3 hbw3))
  clear hb3 hone hB3 hbw3 hcan
  go_wp2_with fail
  refine HK.out.1.mono ?_
  rintro e w4 ⟨v, rfl, hv, hb4⟩
  have hbb := below_next' HK.out.2.2 hb4
  have hB5 := HK.out.2.1.below hb4
  clear hb4
  obtain ⟨yn, yl, yc, dn, dl, dc, rfl, hzn, hzd⟩ := hv
  obtain ⟨⟨t0, t1, t2⟩, i0, i1, i2⟩ := hB5.three
  have HF := Lib.hid (And.intro hzn (And.intro hzd (And.intro hbb hB5)))
  clear hzn hzd hbb hB5
  go_wp2
  obtain ⟨hzn, hzd, hbw3, hB5⟩ := HF.out
  refine bodyPost_ret (v := .tuple #[.agg #[.bool (decide ((rat neg n 1).num < 0)), .slice yn yl yc, .slice dn dl dc], .bool true]) (by simp [results, Tryd.results10, go_sem, t0, t1, t2]) rfl ⟨⟨.agg #[.bool (decide ((rat neg n 1).num < 0)), .slice yn yl yc, .slice dn dl dc], rfl, ?_⟩, below_set3 hbw3 (by omega) _ _ _⟩
  exact RatC.other (⟨yn, yl, yc, dn, dl, dc, rfl, hzn, hzd⟩ : RatC w4 _ (rat neg n 1)) hB5 noLimb_nil3 (grown_set3 _ _ _ _ _)

set_option maxHeartbeats 4000000 in
theorem parse_den_none {s b num den : ByteArray} {neg : Bool} {n : Nat} (H : ParseC s b num den neg true (some n) none) (w : World) : Calls Tryd.prog 10 #[.string s] w (ParseP none w) := by
  have HH := Lib.hid H
  clear H
  go_enter Tryd.func10, Tryd.ntmps10
  go_wp2_with fail
  obtain ⟨W0, hW0⟩ : ∃ W0, w.alloc (.cells #[.bool false, .slice none 0 0, .slice none 0 0] 24) = W0 := ⟨_, rfl⟩
  have hbw : Below w.heap.size w W0 := by rw [← hW0]; exact below_alloc1 _ _
  have hB : BoxV W0 w.heap.size w.heap.size 24 [.bool false, .slice none 0 0, .slice none 0 0] := by rw [← hW0]; exact BoxV.new w w.heap.size 24 (Nat.le_refl _) [.bool false, .slice none 0 0, .slice none 0 0]
  rw [hW0]
  clear hW0
  have HX := Lib.hid (And.intro hbw hB)
  clear hbw hB
  refine (HH.out.cp _).mono ?_
  rintro e w1 ⟨rfl, rfl⟩
  go_wp2_with fail
  refine (HH.out.cc _).mono ?_
  rintro e w1 ⟨rfl, hb1⟩
  go_wp2_with fail
  refine (HH.out.p1 _).mono ?_
  intro e w2 h2
  obtain ⟨a1, n1, c1, rfl, hn1, hb2⟩ := h2.some_
  have hbw := below_next' HX.out.1 (hb1.trans (hb2.mono hb1.size))
  have hB2 := (HX.out.2.below hb1).below hb2
  have HG := Lib.hid (And.intro hbw (And.intro hB2 hn1))
  clear hb1 hb2 h2 hbw hB2 hn1
  go_wp2_with fail
  obtain ⟨W3, hW3⟩ : ∃ W3, w2.alloc (.cells #[.int .u32 1] 32) = W3 := ⟨_, rfl⟩
  have hb3 : Below w2.heap.size w2 W3 := by rw [← hW3]; exact below_alloc1 _ _
  have hone : W3.cell? ⟨w2.heap.size, 0, none⟩ = some (.int .u32 1) := by rw [← hW3, World.cell?_alloc_new]; rfl
  rw [hW3]
  clear hW3
  have HK := Lib.hid (And.intro (HG.out.2.1.below hb3) (And.intro (below_next' HG.out.1 hb3) (HG.out.2.2.below hb3)))
  clear hb3 hone
  go_wp2_with fail
  refine (HH.out.p2 _).mono ?_
  intro e w4 h4
  obtain ⟨rfl, hb4⟩ := h4.none_
  have hbw := below_next' HK.out.2.1 hb4
  have hB2 := HK.out.1.below hb4
  obtain ⟨⟨t0, t1, t2⟩, i0, i1, i2⟩ := hB2.three
  have HF := Lib.hid (And.intro hbw hB2)
  clear hb4 h4 hbw hB2
  go_wp2
  refine bodyPost_ret (v := .tuple #[.agg #[.bool false, .slice none 0 0, .slice none 0 0], .bool false]) (by simp [results, Tryd.results10, go_sem, t0, t1, t2]) rfl ⟨rfl, below_set3 HF.out.1 (by omega) _ _ _⟩

set_option maxHeartbeats 4000000 in
theorem parse_den_zero {s b num den : ByteArray} {neg : Bool} {n : Nat} (H : ParseC s b num den neg true (some n) (some 0)) (w : World) : Calls Tryd.prog 10 #[.string s] w (ParseP none w) := by
  have HH := Lib.hid H
  clear H
  go_enter Tryd.func10, Tryd.ntmps10
  go_wp2_with fail
  obtain ⟨W0, hW0⟩ : ∃ W0, w.alloc (.cells #[.bool false, .slice none 0 0, .slice none 0 0] 24) = W0 := ⟨_, rfl⟩
  have hbw : Below w.heap.size w W0 := by rw [← hW0]; exact below_alloc1 _ _
  have hB : BoxV W0 w.heap.size w.heap.size 24 [.bool false, .slice none 0 0, .slice none 0 0] := by rw [← hW0]; exact BoxV.new w w.heap.size 24 (Nat.le_refl _) [.bool false, .slice none 0 0, .slice none 0 0]
  rw [hW0]
  clear hW0
  have HX := Lib.hid (And.intro hbw hB)
  clear hbw hB
  refine (HH.out.cp _).mono ?_
  rintro e w1 ⟨rfl, rfl⟩
  go_wp2_with fail
  refine (HH.out.cc _).mono ?_
  rintro e w1 ⟨rfl, hb1⟩
  go_wp2_with fail
  refine (HH.out.p1 _).mono ?_
  intro e w2 h2
  obtain ⟨a1, n1, c1, rfl, hn1, hb2⟩ := h2.some_
  have hbw := below_next' HX.out.1 (hb1.trans (hb2.mono hb1.size))
  have hB2 := (HX.out.2.below hb1).below hb2
  have HG := Lib.hid (And.intro hbw (And.intro hB2 hn1))
  clear hb1 hb2 h2 hbw hB2 hn1
  go_wp2_with fail
  obtain ⟨W3, hW3⟩ : ∃ W3, w2.alloc (.cells #[.int .u32 1] 32) = W3 := ⟨_, rfl⟩
  have hb3 : Below w2.heap.size w2 W3 := by rw [← hW3]; exact below_alloc1 _ _
  have hone : W3.cell? ⟨w2.heap.size, 0, none⟩ = some (.int .u32 1) := by rw [← hW3, World.cell?_alloc_new]; rfl
  rw [hW3]
  clear hW3
  have HK := Lib.hid (And.intro (HG.out.2.1.below hb3) (And.intro (below_next' HG.out.1 hb3) (HG.out.2.2.below hb3)))
  clear hb3 hone
  go_wp2_with fail
  refine (HH.out.p2 _).mono ?_
  intro e w4 h4
  obtain ⟨a2, n2, c2, rfl, hn2, hb4⟩ := h4.some_
  have hz : n2 = 0 := (nt_len hn2).2 rfl
  subst hz
  have hbw := below_next' HK.out.2.1 hb4
  have hB2 := HK.out.1.below hb4
  obtain ⟨⟨t0, t1, t2⟩, i0, i1, i2⟩ := hB2.three
  have HF := Lib.hid (And.intro hbw hB2)
  clear hb4 h4 hbw hB2 hn2
  go_wp2
  refine bodyPost_ret (v := .tuple #[.agg #[.bool false, .slice none 0 0, .slice none 0 0], .bool false]) (by simp [results, Tryd.results10, go_sem, t0, t1, t2]) rfl ⟨rfl, below_set3 HF.out.1 (by omega) _ _ _⟩

set_option maxHeartbeats 4000000 in
theorem parse_den {s b num den : ByteArray} {neg : Bool} {n d : Nat} (H : ParseC s b num den neg true (some n) (some d)) (hn : n < pw 23) (hd : d < pw 23) (hd0 : 0 < d) (w : World) : Calls Tryd.prog 10 #[.string s] w (ParseP (some (rat neg n d)) w) := by
  have HH := Lib.hid H
  clear H
  go_enter Tryd.func10, Tryd.ntmps10
  go_wp2_with fail
  obtain ⟨W0, hW0⟩ : ∃ W0, w.alloc (.cells #[.bool false, .slice none 0 0, .slice none 0 0] 24) = W0 := ⟨_, rfl⟩
  have hbw : Below w.heap.size w W0 := by rw [← hW0]; exact below_alloc1 _ _
  have hB : BoxV W0 w.heap.size w.heap.size 24 [.bool false, .slice none 0 0, .slice none 0 0] := by rw [← hW0]; exact BoxV.new w w.heap.size 24 (Nat.le_refl _) [.bool false, .slice none 0 0, .slice none 0 0]
  rw [hW0]
  clear hW0
  have HX := Lib.hid (And.intro hbw hB)
  clear hbw hB
  refine (HH.out.cp _).mono ?_
  rintro e w1 ⟨rfl, rfl⟩
  go_wp2_with fail
  refine (HH.out.cc _).mono ?_
  rintro e w1 ⟨rfl, hb1⟩
  go_wp2_with fail
  refine (HH.out.p1 _).mono ?_
  intro e w2 h2
  obtain ⟨a1, n1, c1, rfl, hn1, hb2⟩ := h2.some_
  have hbw := below_next' HX.out.1 (hb1.trans (hb2.mono hb1.size))
  have hB2 := (HX.out.2.below hb1).below hb2
  have HG := Lib.hid (And.intro hbw (And.intro hB2 hn1))
  clear hb1 hb2 h2 hbw hB2 hn1
  go_wp2_with fail
  obtain ⟨W3, hW3⟩ : ∃ W3, w2.alloc (.cells #[.int .u32 1] 32) = W3 := ⟨_, rfl⟩
  have hb3 : Below w2.heap.size w2 W3 := by rw [← hW3]; exact below_alloc1 _ _
  have hone : W3.cell? ⟨w2.heap.size, 0, none⟩ = some (.int .u32 1) := by rw [← hW3, World.cell?_alloc_new]; rfl
  rw [hW3]
  clear hW3
  have HK := Lib.hid (And.intro (HG.out.2.1.below hb3) (And.intro (below_next' HG.out.1 hb3) (HG.out.2.2.below hb3)))
  clear hb3 hone
  go_wp2_with fail
  refine (HH.out.p2 _).mono ?_
  intro e w4 h4
  obtain ⟨a2, n2, c2, rfl, hn2, hb4⟩ := h4.some_
  have hz : ¬ n2 = 0 := fun e => by have := (nt_len hn2).1 e; omega
  have hz2 : ((n2 : Int) == 0) = false := by rw [beq_eq_false_iff_ne]; omega
  have hB4 := HK.out.1.below hb4
  have hbw4 := below_next' HK.out.2.1 hb4
  have hcan := canonical_any neg a1 a2 n1 c1 n2 c2 n d 23 w4 (HK.out.2.2.below hb4) hn2 hd0 hn hd (by omega)
  have HM := Lib.hid (And.intro hcan (And.intro hB4 hbw4))
  clear hb4 h4 hn2 hB4 hbw4 hcan
  go_wp2_with fail
  refine HM.out.1.mono ?_
  rintro e w5 ⟨v, rfl, hv, hb5⟩
  have hbb := below_next' HM.out.2.2 hb5
  have hB5 := HM.out.2.1.below hb5
  clear hb5
  obtain ⟨yn, yl, yc, dn, dl, dc, rfl, hzn, hzd⟩ := hv
  obtain ⟨⟨t0, t1, t2⟩, i0, i1, i2⟩ := hB5.three
  have HF := Lib.hid (And.intro hzn (And.intro hzd (And.intro hbb hB5)))
  clear hzn hzd hbb hB5
  go_wp2
  obtain ⟨hzn, hzd, hbw3, hB5⟩ := HF.out
  refine bodyPost_ret (v := .tuple #[.agg #[.bool (decide ((rat neg n d).num < 0)), .slice yn yl yc, .slice dn dl dc], .bool true]) (by simp [results, Tryd.results10, go_sem, t0, t1, t2]) rfl ⟨⟨.agg #[.bool (decide ((rat neg n d).num < 0)), .slice yn yl yc, .slice dn dl dc], rfl, ?_⟩, below_set3 hbw3 (by omega) _ _ _⟩
  exact RatC.other (⟨yn, yl, yc, dn, dl, dc, rfl, hzn, hzd⟩ : RatC w5 _ (rat neg n d)) hB5 noLimb_nil3 (grown_set3 _ _ _ _ _)

/-- The text behind the sign. -/
def bodyL (l : List UInt8) : List UInt8 := if negB l then l.drop 1 else l
/-- What a text says: a sign, digits, and digits behind a slash. -/
def parseR (l : List UInt8) : Option Rat := match digs (fore (bodyL l)) with
  | none => none
  | some n => if 0 ≤ slash (bodyL l) then (match digs (aft (bodyL l)) with
      | none => none
      | some d => if d = 0 then none else some (rat (negB l) n d)) else some (rat (negB l) n 1)

theorem body_data (s : ByteArray) : (body s).data.toList = bodyL s.data.toList := by
  unfold body bodyL
  split
  · rw [Lib.extract_data, List.take_of_length_le (by rw [List.length_drop, size_data]; exact Nat.le_refl _)]
  · rfl
theorem body_size (s : ByteArray) : (body s).size ≤ s.size := by
  rw [← size_data, body_data, ← size_data]
  unfold bodyL
  split
  · rw [List.length_drop]; omega
  · exact Nat.le_refl _

theorem parse_any (s : ByteArray) (w : World) (hs : s.size ≤ 500) : Calls Tryd.prog 10 #[.string s] w (ParseP (parseR s.data.toList) w) := by
  have hbs := body_size s
  have hbd := body_data s
  have H : ParseC s (body s) ⟨(fore (bodyL s.data.toList)).toArray⟩ ⟨(if 0 ≤ slash (bodyL s.data.toList) then aft (bodyL s.data.toList) else []).toArray⟩ (negB s.data.toList) (decide (0 ≤ slash (bodyL s.data.toList))) (digs (fore (bodyL s.data.toList))) (digs (if 0 ≤ slash (bodyL s.data.toList) then aft (bodyL s.data.toList) else [])) := by
    refine ⟨fun w => cutPrefix_any s w, fun w => ?_, fun w => ?_, fun w => ?_⟩
    · have := cut_any' (body s) w (by omega)
      rw [hbd] at this
      exact this
    · refine parseNat_any _ w ?_
      rw [← size_data]
      have h1 : (fore (bodyL s.data.toList)).length ≤ (bodyL s.data.toList).length := (List.takeWhile_prefix _).length_le
      rw [← hbd, size_data] at h1
      show (fore (bodyL s.data.toList)).length ≤ _
      rw [← hbd]; omega
    · refine parseNat_any _ w ?_
      rw [← size_data]
      show (if 0 ≤ slash (bodyL s.data.toList) then aft (bodyL s.data.toList) else []).length ≤ _
      have h1 : (aft (bodyL s.data.toList)).length ≤ (bodyL s.data.toList).length := by unfold aft; rw [List.length_drop]; omega
      rw [← hbd, size_data] at h1
      rw [← hbd]
      split
      · omega
      · simp
  unfold parseR
  cases h1 : digs (fore (bodyL s.data.toList)) with
  | none => rw [h1] at H; exact parse_none H w
  | some n =>
    rw [h1] at H
    have hn := digs_lt h1
    by_cases h2 : 0 ≤ slash (bodyL s.data.toList)
    · rw [decide_eq_true h2, if_pos h2] at H
      simp only [if_pos h2]
      cases h3 : digs (aft (bodyL s.data.toList)) with
      | none => rw [h3] at H; exact parse_den_none H w
      | some d =>
        rw [h3] at H
        by_cases h4 : d = 0
        · subst h4; simp only [if_true]; exact parse_den_zero H w
        · simp only [if_neg h4]; exact parse_den H hn (digs_lt h3) (by omega) w
    · rw [decide_eq_false h2, if_neg h2] at H
      simp only [if_neg h2]
      exact parse_whole H hn w

end Go.Proofs.YtafhepbplffmeaaDoor

/-
  internal/strconv.AppendUint and strconv.AppendUint at base 10 over this seat's numbers, out of the shelf's contracts. Condition: the table of powers of ten reads as it is laid.
-/
namespace Go.Proofs.YtafhepbplffmeaaDoor
open Go.RowKit

def Tryd.lay288_ren : Go.Shelf.Ren := ⟨fun | 129 => 86 | 283 => 66 | 284 => 67 | 285 => 68 | 286 => 69 | 288 => 54 | 317 => 85 | 318 => 87 | 319 => 88 | 320 => 89 | 337 => 92 | 338 => 93 | n => n, fun | 0 => 0 | 3 => 3 | 4 => 4 | 5 => 5 | 9 => 9 | 20 => 20 | 37 => 38 | 46 => 105 | 51 => 32 | 53 => 65 | 171 => 93 | 173 => 96 | 212 => 113 | 213 => 114 | 232 => 120 | 233 => 121 | n => n, fun | 17 => 1 | 18 => 2 | 19 => 3 | n => n⟩
theorem Tryd.lay288 : LaysM.n288 Tryd.prog Tryd.lay288_ren := {
  mixed := (by kernel_rfl),
  f129 := Tryd.func86.trans (congrArg some (by kernel_rfl)),
  f283 := Tryd.func66.trans (congrArg some (by kernel_rfl)),
  f284 := Tryd.func67.trans (congrArg some (by kernel_rfl)),
  f285 := Tryd.func68.trans (congrArg some (by kernel_rfl)),
  f286 := Tryd.func69.trans (congrArg some (by kernel_rfl)),
  f288 := Tryd.func54.trans (congrArg some (by kernel_rfl)),
  f317 := Tryd.func85.trans (congrArg some (by kernel_rfl)),
  f318 := Tryd.func87.trans (congrArg some (by kernel_rfl)),
  f319 := Tryd.func88.trans (congrArg some (by kernel_rfl)),
  f320 := Tryd.func89.trans (congrArg some (by kernel_rfl)),
  f337 := Tryd.func92.trans (congrArg some (by kernel_rfl)),
  f338 := Tryd.func93.trans (congrArg some (by kernel_rfl)),
  t0 := Tryd.underlying0,
  a0 := Tryd.isAgg0,
  z0 := Tryd.sizeOf0,
  v0 := Tryd.zeroValue0,
  t3 := Tryd.underlying3,
  a3 := Tryd.isAgg3,
  z3 := Tryd.sizeOf3,
  v3 := Tryd.zeroValue3,
  t4 := Tryd.underlying4,
  a4 := Tryd.isAgg4,
  z4 := Tryd.sizeOf4,
  v4 := Tryd.zeroValue4,
  t5 := Tryd.underlying5,
  a5 := Tryd.isAgg5,
  z5 := Tryd.sizeOf5,
  v5 := Tryd.zeroValue5,
  t9 := Tryd.underlying9,
  a9 := Tryd.isAgg9,
  z9 := Tryd.sizeOf9,
  v9 := Tryd.zeroValue9,
  t20 := Tryd.underlying20,
  a20 := Tryd.isAgg20,
  z20 := Tryd.sizeOf20,
  v20 := Tryd.zeroValue20,
  t37 := Tryd.underlying38,
  a37 := Tryd.isAgg38,
  z37 := Tryd.sizeOf38,
  v37 := Tryd.zeroValue38,
  t46 := Tryd.underlying105,
  a46 := Tryd.isAgg105,
  z46 := Tryd.sizeOf105,
  v46 := Tryd.zeroValue105,
  t51 := Tryd.underlying32,
  a51 := Tryd.isAgg32,
  z51 := Tryd.sizeOf32,
  v51 := Tryd.zeroValue32,
  t53 := Tryd.underlying65,
  a53 := Tryd.isAgg65,
  z53 := Tryd.sizeOf65,
  v53 := Tryd.zeroValue65,
  t171 := Tryd.underlying93,
  a171 := Tryd.isAgg93,
  z171 := Tryd.sizeOf93,
  v171 := Tryd.zeroValue93,
  t173 := Tryd.underlying96,
  a173 := Tryd.isAgg96,
  z173 := Tryd.sizeOf96,
  v173 := Tryd.zeroValue96,
  t212 := Tryd.underlying113,
  a212 := Tryd.isAgg113,
  z212 := Tryd.sizeOf113,
  v212 := Tryd.zeroValue113,
  t213 := Tryd.underlying114,
  a213 := Tryd.isAgg114,
  z213 := Tryd.sizeOf114,
  t232 := Tryd.underlying120,
  a232 := Tryd.isAgg120,
  z232 := Tryd.sizeOf120,
  v232 := Tryd.zeroValue120,
  t233 := Tryd.underlying121,
  a233 := Tryd.isAgg121,
  z233 := Tryd.sizeOf121,
  v233 := Tryd.zeroValue121,
  g17 := (by kernel_rfl),
  g18 := (by kernel_rfl),
  g19 := (by kernel_rfl),
  i0 := (by kernel_rfl),
  i3 := (by kernel_rfl),
  i4 := (by kernel_rfl),
  i5 := (by kernel_rfl),
  i9 := (by kernel_rfl),
  i20 := (by kernel_rfl),
  i37 := (by kernel_rfl),
  i46 := (by kernel_rfl),
  i51 := (by kernel_rfl),
  i53 := (by kernel_rfl),
  i171 := (by kernel_rfl),
  i173 := (by kernel_rfl),
  i212 := (by kernel_rfl),
  i232 := (by kernel_rfl),
  i233 := (by kernel_rfl),
  m17 := (by kernel_rfl),
  m18 := (by kernel_rfl),
  m19 := (by kernel_rfl) }

def TabP (B : Nat) (w : World) : Prop := Lib.TabBelow Tryd.prog B w "internal/strconv.uint64pow10" .u64 Lib.pow10Tab

theorem appendUintIn_any (B n u : Nat) (hu64 : u < 18446744073709551616) (sv : Value) (xs : List Value) (w : World) (hown : w.ownsRow B 5 1 sv n xs) (hBw : B ≤ w.heap.size) (hlim : n + 20 ≤ 140737488355328) (htab : TabP B w) :
    Calls Tryd.prog 54 #[sv, .int .u64 u, .int .i64 10] w fun e w' => ∃ v', e = .returned v' ∧ w'.ownsRow B 5 1 v' (n + (Lib.decDigits u).length) (xs ++ Lib.byteCells (Lib.decDigits u)) ∧ Below B w w' ∧ Lib.OthersKept 5 none w w' := by
  by_cases hu : u < 100
  · exact Any.internal_strconv_AppendUint_10_small Tryd.lay288 B n u hu sv xs w hown hBw hlim
  · exact Any.internal_strconv_AppendUint_10_big Tryd.lay288 B n u (by omega) hu64 sv xs w hown hBw hlim htab.here

set_option maxRecDepth 20000 in
theorem appendUint_any (B n u : Nat) (hu64 : u < 18446744073709551616) (sv : Value) (xs : List Value) (w : World) (hown : w.ownsRow B 5 1 sv n xs) (hBw : B ≤ w.heap.size) (hlim : n + 20 ≤ 140737488355328) (htab : TabP B w) :
    Calls Tryd.prog 38 #[sv, .int .u64 u, .int .i64 10] w fun e w' => ∃ v', e = .returned v' ∧ w'.ownsRow B 5 1 v' (n + (Lib.decDigits u).length) (xs ++ Lib.byteCells (Lib.decDigits u)) ∧ Below B w w' ∧ Lib.OthersKept 5 none w w' := by
  have HC := Lib.hid (appendUintIn_any B n u hu64 sv xs w hown hBw hlim htab)
  clear hown htab
  go_enter Tryd.func38, Tryd.ntmps38
  go_wp2_with (go_at_call 54; refine HC.out.mono ?_; rintro e w' ⟨v', rfl, h1, h2, h3⟩)
  go_ret
  exact ⟨_, rfl, h1, h2, h3⟩
end Go.Proofs.YtafhepbplffmeaaDoor

/-
  The walk of appendDigits. Conditions: the limbs are canonical and lie below the text; the table of powers of ten reads as it is laid.
-/
namespace Go.Proofs.YtafhepbplffmeaaDoor
open Go.RowKit Num
open Go.Lib (decDigits)

theorem Tryd.info5 : (Tryd.prog.info? 5).map (fun i => (i.zero, i.size, i.bytes)) = some (some (.int .u8 0), 1, 1) := by kernel_rfl

/-- What a row of bytes says. -/
def Txt (w : World) (B : Nat) (v : Value) (l : List UInt8) : Prop := w.ownsRow B 5 1 v l.length (Go.Lib.byteCells l)
theorem txt_nil (w : World) (B : Nat) : Txt w B (.slice none 0 0) [] := World.ownsRow_nil _ _ _ _
theorem txt_of {w : World} {B n : Nat} {v : Value} {l m : List UInt8} (h : w.ownsRow B 5 1 v n (Go.Lib.byteCells l ++ Go.Lib.byteCells m)) (hn : n = l.length + m.length) : Txt w B v (l ++ m) := by
  unfold Txt; rw [List.length_append, ← hn, Go.Lib.byteCells_append]; exact h
theorem byte_one (b : UInt8) : Go.Lib.byteCells [b] = [.int .u8 (b.toNat : Int)] := by simp [Go.Lib.byteCells]

section
open Go.Lib
/-- The k lowest decimal digits of v, the first ahead. -/
def pad : Nat → Nat → List UInt8
  | 0, _ => []
  | k + 1, v => pad k (v / 10) ++ [UInt8.ofNat (48 + v % 10)]
theorem pad_zero (v : Nat) : pad 0 v = [] := rfl
theorem pad_succ (k v : Nat) : pad (k + 1) v = pad k (v / 10) ++ [UInt8.ofNat (48 + v % 10)] := rfl
theorem pad_length (k v : Nat) : (pad k v).length = k := by
  induction k generalizing v with
  | zero => rfl
  | succ k ih => rw [pad_succ, List.length_append, ih]; rfl
theorem pad_split (k j v : Nat) : pad (k + j) v = pad k (v / 10 ^ j) ++ pad j v := by
  induction j generalizing v with
  | zero => rw [Nat.pow_zero, Nat.div_one, pad_zero, List.append_nil, Nat.add_zero]
  | succ j ih =>
    rw [← Nat.add_assoc, pad_succ, ih, pad_succ, List.append_assoc, Nat.div_div_eq_div_mul, Nat.pow_succ, Nat.mul_comm 10]
/-- One digit more behind. -/
theorem pad_next (j u : Nat) : pad (j + 1) u = pad j (u / 10) ++ pad 1 u := by rw [pad_split j 1]
/-- One digit more ahead. -/
theorem pad_ahead (j u : Nat) : pad (j + 1) u = UInt8.ofNat (48 + u / 10 ^ j % 10) :: pad j u := by
  rw [Nat.add_comm, pad_split 1 j]; rfl
theorem pad_mod (k v : Nat) : pad k (v % 10 ^ k) = pad k v := by
  induction k generalizing v with
  | zero => rfl
  | succ k ih =>
    rw [pad_succ, pad_succ, ← ih (v / 10)]
    have e1 : v % 10 ^ (k + 1) / 10 = v / 10 % 10 ^ k := by
      rw [Nat.pow_succ, Nat.mul_comm, Nat.mod_mul_right_div_self]
    have e2 : v % 10 ^ (k + 1) % 10 = v % 10 := by
      rw [Nat.pow_succ, Nat.mul_comm, Nat.mod_mul_right_mod]
    rw [e1, e2]
theorem dec_big {u : Nat} (h : ¬ u < 10) : decDigits u = decDigits (u / 10) ++ [UInt8.ofNat (48 + u % 10)] := by rw [decDigits, dif_neg h]
theorem dec_pad (u : Nat) : decDigits u = pad (nDigits u) u := by
  induction u using Nat.strongRecOn with
  | _ u ih =>
    by_cases h : u < 10
    · rw [decDigits_one h, nDigits_small h, pad_succ, pad_zero, Nat.mod_eq_of_lt h]; rfl
    · rw [dec_big h, nDigits_big h, pad_succ, ih (u / 10) (by omega)]
/-- A numeral, and k digits behind it. -/
theorem dec_more (k a b : Nat) (ha : 0 < a) (hb : b < 10 ^ k) : decDigits (a * 10 ^ k + b) = decDigits a ++ pad k b := by
  induction k generalizing b with
  | zero =>
    have : b = 0 := by simpa using hb
    subst this
    rw [Nat.pow_zero, Nat.mul_one, Nat.add_zero, pad_zero, List.append_nil]
  | succ k ih =>
    have hp : 1 ≤ 10 ^ k := Nat.one_le_pow _ _ (by decide)
    rw [Nat.pow_succ] at hb
    have e : a * 10 ^ (k + 1) + b = 10 * (a * 10 ^ k) + b := by rw [Nat.pow_succ, ← Nat.mul_assoc, Nat.mul_comm _ 10]
    have hm : 10 ^ k ≤ a * 10 ^ k := Nat.le_mul_of_pos_left _ ha
    have ih' := ih (b / 10) (by omega)
    rw [e]
    generalize 10 ^ k = p at *
    generalize a * p = q at *
    rw [dec_big (by omega), show (10 * q + b) / 10 = q + b / 10 by omega, show (10 * q + b) % 10 = b % 10 by omega, ih', pad_succ, List.append_assoc]
theorem dec_length_le (u k : Nat) (h : u < 10 ^ k) (hk : 0 < k) : (decDigits u).length ≤ k := by
  rw [decDigits_length]
  induction k generalizing u with
  | zero => omega
  | succ k ih =>
    by_cases h1 : u < 10
    · rw [nDigits_small h1]; omega
    · rw [nDigits_big h1]
      rw [Nat.pow_succ] at h
      rcases Nat.eq_zero_or_pos k with h2 | h2
      · subst h2; omega
      · have := ih (u / 10) (by omega) h2; omega
theorem nDigits_le {v n : Nat} (h : v < 10 ^ n) (hn : 0 < n) : nDigits v ≤ n := by have := dec_length_le v n h hn; rwa [decDigits_length] at this
/-- A number that k digits just hold. -/
theorem pad_is_dec {v k : Nat} (h0 : v / 10 ^ k = 0) (h1 : 0 < k) (h2 : 0 < v / 10 ^ (k - 1)) : pad k v = decDigits v := by
  rw [dec_pad]
  congr 1
  have hp : 0 < 10 ^ k := Nat.pow_pos (by decide)
  have hq : 0 < 10 ^ (k - 1) := Nat.pow_pos (by decide)
  have h3 : v < 10 ^ k := by rw [Nat.div_eq_zero_iff] at h0; omega
  have h4 : 10 ^ (k - 1) ≤ v := by
    rcases Nat.lt_or_ge v (10 ^ (k - 1)) with h | h
    · rw [Nat.div_eq_of_lt h] at h2; omega
    · exact h
  have := nDigits_unique (k - 1) v h4 (by rw [show k - 1 + 1 = k by omega]; exact h3)
  omega
theorem digit_toNat (d : Nat) (h : d < 10) : (UInt8.ofNat (48 + d)).toNat = 48 + d := by
  rw [UInt8.toNat_ofNat']; omega
theorem dec_pos (u : Nat) : 0 < (decDigits u).length := by rw [decDigits_length]; exact nDigits_pos u

end
theorem dec_limb {l : List Nat} (hl : Lo l) (i : Nat) (hi : i < l.length) (h : 0 < val (l.drop (i + 1))) :
    decDigits (val (l.drop i)) = decDigits (val (l.drop (i + 1))) ++ pad 9 (nth l i) := by
  rw [val_drop l i hi, Nat.add_comm, Nat.mul_comm]
  exact dec_more 9 _ _ h (hl i)
theorem pw_ten' (k : Nat) : pw k = 10 ^ (9 * k) := by
  unfold pw; rw [show (1000000000 : Nat) = 10 ^ 9 from rfl, ← Nat.pow_mul]
def un (j : Nat) : Nat := if j = 0 then 0 else 10 ^ (j - 1)
theorem un_zero : un 0 = 0 := rfl
theorem un_succ (m : Nat) : un (m + 1) = 10 ^ m := rfl
theorem un_next (m : Nat) : 10 ^ m / 10 = un m := by
  cases m with
  | zero => rfl
  | succ m => rw [un_succ, Nat.pow_succ, Nat.mul_div_cancel _ (by omega)]

theorem val_drop_pos {l : List Nat} (hc : Cano l) {g : Nat} (hg : g < l.length) : 0 < val (l.drop g) := by
  rcases Nat.eq_zero_or_pos (val (l.drop g)) with h | h
  · have h1 := val_eq_zero h (l.length - 1 - g)
    rw [nth_drop, show g + (l.length - 1 - g) = l.length - 1 by omega] at h1
    rcases hc.2 with h2 | h2
    · omega
    · exact absurd h1 h2
  · exact h
theorem val_drop_top {l : List Nat} (h : 0 < l.length) : val (l.drop (l.length - 1)) = nth l (l.length - 1) := by
  rw [val_drop l _ (by omega), show l.length - 1 + 1 = l.length by omega, List.drop_length]; rfl
end Go.Proofs.YtafhepbplffmeaaDoor

/-
  Decimal texts of numbers, and that reading one gives the number back. Plain.
-/
namespace Go.Proofs.YtafhepbplffmeaaDoor
open Go.Lib Num


theorem pw_ten (k : Nat) : pw k = 10 ^ (9 * k) := pw_ten' k
/-- The text of the limbs below a place. -/
def low (l : List Nat) (i : Nat) : List UInt8 := pad (9 * i) (val (l.take i))
theorem low_zero (l : List Nat) : low l 0 = [] := rfl
theorem low_succ {l : List Nat} (hl : Lo l) (i : Nat) (hi : i < l.length) : low l (i + 1) = pad 9 (nth l i) ++ low l i := by
  have h1 := val_take_lt hl i (Nat.le_of_lt hi)
  have hp := pw_pos i
  unfold low
  rw [show 9 * (i + 1) = 9 + 9 * i by omega, pad_split, ← pw_ten, val_take_succ l i hi]
  have e1 : (val (l.take i) + pw i * nth l i) / pw i = nth l i := by
    rw [Nat.add_mul_div_left _ _ hp, Nat.div_eq_of_lt h1, Nat.zero_add]
  have e2 : (val (l.take i) + pw i * nth l i) % pw i = val (l.take i) := by
    rw [Nat.add_mul_mod_self_left, Nat.mod_eq_of_lt h1]
  rw [e1]
  congr 1
  rw [← pad_mod, ← pw_ten, e2]
theorem dec_low {l : List Nat} (hl : Lo l) (i : Nat) (hi : i + 1 = l.length) (h : 0 < nth l i) : decDigits (nth l i) ++ low l i = decDigits (val l) := by
  have h1 := val_take_lt hl i (by omega)
  have e : val l = val (l.take i) + pw i * nth l i := by
    rw [← val_take_succ l i (by omega), hi, List.take_length]
  unfold low
  rw [pw_ten] at h1
  rw [e, pw_ten, Nat.add_comm (val _), Nat.mul_comm _ (nth l i), dec_more (9 * i) _ _ h h1]

theorem dv_pad (k v : Nat) : dv 0 (pad k v) = v % 10 ^ k := by
  induction k generalizing v with
  | zero => rw [pad_zero, dv_nil, Nat.pow_zero, Nat.mod_one]
  | succ k ih =>
    rw [pad_succ, dv_snoc, ih, digit_toNat _ (Nat.mod_lt _ (by omega))]
    have e : v % 10 ^ (k + 1) = v % 10 + 10 * (v / 10 % 10 ^ k) := by
      rw [Nat.pow_succ, Nat.mul_comm, Nat.mod_mul]
    rw [e]; omega
theorem dv_dec (u : Nat) : dv 0 (decDigits u) = u := by
  rw [dec_pad, dv_pad, Nat.mod_eq_of_lt (lt_pow_nDigits u)]
theorem all_pad (k v : Nat) : (pad k v).all digB = true := by
  induction k generalizing v with
  | zero => rfl
  | succ k ih =>
    rw [pad_succ, List.all_append, ih]
    have : digB (UInt8.ofNat (48 + v % 10)) = true := by
      rw [digB_iff, digit_toNat _ (Nat.mod_lt _ (by omega))]; omega
    rw [List.all_cons, this]; rfl
theorem all_dec (u : Nat) : (decDigits u).all digB = true := by rw [dec_pad]; exact all_pad _ _
theorem digs_dec {u : Nat} (h : u < 10 ^ 200) : digs (decDigits u) = some u := by
  rw [digs_good (dec_pos u) (dec_length_le u 200 h (by omega)) (all_dec u), dv_dec]

def tailT (q : Rat) : List UInt8 := if q.den = 1 then [] else 47 :: decDigits q.den
/-- The text of a number. -/
def qtxt (q : Rat) : List UInt8 := (if q.num < 0 then [45] else []) ++ (decDigits q.num.natAbs ++ tailT q)

theorem dig_ne {b : UInt8} (h : digB b = true) (c : UInt8) (hc : c.toNat < 48) : (b == c) = false := by
  rw [beq_eq_false_iff_ne]
  rintro rfl
  have := (digB_iff b).1 h
  omega
theorem take_digs {D T : List UInt8} (hD : D.all digB = true) (hT : T = [] ∨ ∃ E, T = 47 :: E) : (D ++ T).takeWhile (fun b => b != 47) = D := by
  induction D with
  | nil =>
    rcases hT with rfl | ⟨E, rfl⟩
    · rfl
    · rfl
  | cons b D ih =>
    simp only [List.all_cons, Bool.and_eq_true] at hD
    rw [List.cons_append, List.takeWhile_cons]
    have : (b != 47) = true := by
      have h := dig_ne hD.1 47 (by decide)
      rw [bne, h]; rfl
    rw [this]
    simp only [if_true]
    rw [ih hD.2]
theorem negB_dec (u : Nat) (T : List UInt8) : negB (decDigits u ++ T) = false := by
  have h0 := dec_pos u
  have ha := all_dec u
  generalize decDigits u = D at *
  cases D with
  | nil => simp at h0
  | cons b D =>
    simp only [List.all_cons, Bool.and_eq_true] at ha
    have h := dig_ne ha.1 45 (by decide)
    unfold negB preB
    rw [List.cons_append, List.isPrefixOf_cons_cons, List.isPrefixOf_nil_left, Bool.and_true]
    rw [beq_eq_false_iff_ne] at h ⊢
    exact fun e => h e.symm
theorem negB_minus (l : List UInt8) : negB (45 :: l) = true := by
  unfold negB preB
  rw [List.isPrefixOf_cons_cons, List.isPrefixOf_nil_left]; rfl

theorem parse_back {q : Rat} (hn : q.num.natAbs < 10 ^ 200) (hd : q.den < 10 ^ 200) : parseR (qtxt q) = some q := by
  have hneg : negB (qtxt q) = decide (q.num < 0) := by
    unfold qtxt
    by_cases h : q.num < 0
    · rw [if_pos h, decide_eq_true h]; exact negB_minus _
    · rw [if_neg h, decide_eq_false h, List.nil_append]; exact negB_dec _ _
  have hbody : bodyL (qtxt q) = decDigits q.num.natAbs ++ tailT q := by
    unfold bodyL
    rw [hneg]
    unfold qtxt
    by_cases h : q.num < 0
    · rw [if_pos h, decide_eq_true h]; rfl
    · rw [if_neg h, decide_eq_false h]; rfl
  have hT : tailT q = [] ∨ ∃ E, tailT q = 47 :: E := by
    unfold tailT
    split
    · exact .inl rfl
    · exact .inr ⟨_, rfl⟩
  have hfore : fore (decDigits q.num.natAbs ++ tailT q) = decDigits q.num.natAbs := take_digs (all_dec _) hT
  unfold parseR
  rw [hbody, hfore, digs_dec hn, hneg]
  have htw := index_tw (decDigits q.num.natAbs ++ tailT q) 47
  have e0 : (decDigits q.num.natAbs ++ tailT q).takeWhile (fun b => b != 47) = decDigits q.num.natAbs := hfore
  rw [e0] at htw
  have haft : aft (decDigits q.num.natAbs ++ tailT q) = (tailT q).drop 1 := by
    unfold aft
    rw [hfore, ← List.drop_drop, List.drop_left]
  rw [haft]
  by_cases h1 : q.den = 1
  · have ht : tailT q = [] := by unfold tailT; rw [if_pos h1]
    rw [ht, List.append_nil] at htw ⊢
    rcases htw with ⟨hi, _⟩ | ⟨_, r, hr⟩
    · have hn0 : ¬ 0 ≤ slash (decDigits q.num.natAbs) := by unfold slash; rw [hi]; decide
      simp only
      rw [if_neg hn0]
      have := rat_self q
      rw [h1] at this
      exact congrArg some this
    · rw [List.drop_length] at hr; cases hr
  · have ht : tailT q = 47 :: decDigits q.den := by unfold tailT; rw [if_neg h1]
    rw [ht] at htw ⊢
    rcases htw with ⟨_, he⟩ | ⟨hi, _⟩
    · have := congrArg List.length he
      simp at this
    · have hp0 : 0 ≤ slash (decDigits q.num.natAbs ++ 47 :: decDigits q.den) := by unfold slash; rw [hi]; omega
      simp only
      rw [if_pos hp0, List.drop_succ_cons, List.drop_zero, digs_dec hd]
      simp only
      rw [if_neg (Nat.pos_iff_ne_zero.1 q.den_pos)]
      exact congrArg some (rat_self q)
theorem qtxt_length {q : Rat} {k : Nat} (hn : q.num.natAbs < pw k) (hd : q.den < pw k) (hk : 0 < k) : (qtxt q).length ≤ 2 + 18 * k := by
  rw [pw_ten] at hn hd
  have h1 := dec_length_le _ _ hn (by omega)
  have h2 := dec_length_le _ _ hd (by omega)
  unfold qtxt tailT
  simp only [List.length_append]
  split <;> split <;> simp <;> omega
end Go.Proofs.YtafhepbplffmeaaDoor

namespace Go.Proofs.YtafhepbplffmeaaDoor
open Go.RowKit Num
open Go.Lib (decDigits)

theorem dec_zero : decDigits 0 = [48] := by rw [Go.Lib.decDigits_one (by omega)]; rfl
def DigT (B : Nat) (w : World) (l : List UInt8) (e : Ending) (w' : World) : Prop := ∃ v', e = .returned v' ∧ Txt w' B v' l ∧ Below B w w'

theorem txt_hide {w : World} {B : Nat} {v : Value} {l : List UInt8} (h : Txt w B v l) : w.ownsRow B 5 1 v l.length (Go.Lib.byteCells l) := h

theorem drop_text_len {l : List Nat} (hl : Lo l) {g : Nat} (hg : g < l.length) : (decDigits (val (l.drop g))).length ≤ 9 * l.length := by
  have h1 := val_lt (l := l.drop g) (fun i => by rw [nth_drop]; exact hl _)
  rw [List.length_drop, pw_ten'] at h1
  exact Nat.le_trans (dec_length_le _ _ h1 (by omega)) (by omega)

/-- What the outer loop carries: the text so far. -/
def OutR (B : Nat) (w : World) (T : List UInt8) (l : List Nat) (g : Nat) (v : Value) (wr : World) : Prop :=
  Txt wr B v (T ++ decDigits (val (l.drop g))) ∧ Below B w wr
/-- And the inner one. -/
def InR (B : Nat) (w : World) (T : List UInt8) (l : List Nat) (k j : Nat) (v : Value) (wr : World) : Prop :=
  Txt wr B v (T ++ decDigits (val (l.drop (k + 1))) ++ pad (9 - j) (nth l k / 10 ^ j)) ∧ Below B w wr

theorem inR_start {B : Nat} {w wr : World} {T : List UInt8} {l : List Nat} {k : Nat} {v : Value} (h : OutR B w T l (k + 1) v wr) : InR B w T l k 9 v wr := by
  refine ⟨?_, h.2⟩
  rw [Nat.sub_self, pad_zero, List.append_nil]; exact h.1
theorem inR_end {B : Nat} {w wr : World} {T : List UInt8} {l : List Nat} {k : Nat} {v : Value} (hl : Lo l) (hk : k < l.length) (hp : 0 < val (l.drop (k + 1))) (h : InR B w T l k 0 v wr) : OutR B w T l k v wr := by
  refine ⟨?_, h.2⟩
  rw [dec_limb hl k hk hp]
  have := h.1
  rw [Nat.sub_zero, Nat.pow_zero, Nat.div_one, List.append_assoc] at this
  exact this
theorem inR_step {B : Nat} {w wr w3 : World} {T : List UInt8} {l : List Nat} {k m d : Nat} {v v' : Value} (hm : m < 9) (hd : d = nth l k / 10 ^ m % 10) (_ : InR B w T l k (m + 1) v wr) (hb : Below B w w3)
    (hown : w3.ownsRow B 5 1 v' ((T ++ decDigits (val (l.drop (k + 1))) ++ pad (9 - (m + 1)) (nth l k / 10 ^ (m + 1))).length + 1) (Go.Lib.byteCells (T ++ decDigits (val (l.drop (k + 1))) ++ pad (9 - (m + 1)) (nth l k / 10 ^ (m + 1))) ++ [.int .u8 ((48 + d : Nat) : Int)])) : InR B w T l k m v' w3 := by
  refine ⟨?_, hb⟩
  have e : pad (9 - m) (nth l k / 10 ^ m) = pad (9 - (m + 1)) (nth l k / 10 ^ (m + 1)) ++ [UInt8.ofNat (48 + nth l k / 10 ^ m % 10)] := by
    rw [show 9 - m = (9 - (m + 1)) + 1 by omega, pad_succ, Nat.div_div_eq_div_mul, ← Nat.pow_succ]
  rw [e, ← List.append_assoc]
  refine txt_of (n := (T ++ decDigits (val (l.drop (k + 1))) ++ pad (9 - (m + 1)) (nth l k / 10 ^ (m + 1))).length + 1) ?_ rfl
  rw [byte_one, digit_toNat _ (Nat.mod_lt _ (by omega)), ← hd]
  exact hown

set_option maxHeartbeats 4000000 in
set_option maxRecDepth 20000 in
theorem appendDigits_some (B : Nat) (T : List UInt8) (sv : Value) (w0 w : World) (xa : Option Addr) (n xcap : Nat) (l : List Nat) (hx : Lim w0 (.slice xa n xcap) l) (hln : l.length = n) (h0 : 0 < n) (hc : Cano l) (hl : n ≤ 1000) (hB0 : w0.heap.size ≤ B) (hB : B ≤ w.heap.size)
    (hw : Below w0.heap.size w0 w) (hown : Txt w B sv T) (hT : T.length ≤ 100000) (htab : TabP B w) :
    Calls Tryd.prog 18 #[sv, .slice xa n xcap] w (DigT B w (T ++ decDigits (val l))) := by
  obtain ⟨i0, hi, hz0, hz1, hz2⟩ := info_parts Tryd.info5
  have HW := Lib.hid (And.intro hx (And.intro hw hc))
  have hcell : ∀ W, Below B w W → ∀ i, i < n → ∃ b o, xa = some ⟨b, o, none⟩ ∧ W.cell? ⟨b, o + i, none⟩ = some (.int .u32 (nth l i)) := by
    intro W hb i hi
    have h1 := hx.below (hw.trans (hb.mono hB0))
    obtain ⟨a, c, e, _, _, _, h4⟩ := h1
    simp only [Value.slice.injEq] at e
    obtain ⟨rfl, _, _⟩ := e
    exact h4 i (by omega)
  have hc0 := hcell w (Below.refl _ _) (n - 1) (by omega)
  obtain ⟨b, o, rfl, hcw⟩ := hc0
  have hcell2 : ∀ W, Below B w W → ∀ i, i < n → W.cell? ⟨b, o + i, none⟩ = some (.int .u32 (nth l i)) := by
    intro W hb i hi
    obtain ⟨b', o', e, h⟩ := hcell W hb i hi
    cases e
    exact h
  have HC := Lib.hid hcell2
  obtain ⟨p, rfl⟩ : ∃ p, n = p + 1 := ⟨n - 1, by omega⟩
  rw [Nat.add_sub_cancel] at hcw
  have htop := hc.1 p
  have ha := Lib.hid (appendUint_any B T.length (nth l p) (by omega) sv _ w hown hB (by omega) htab)
  have hv0 := val_drop_top (l := l) (by omega)
  rw [hln, Nat.add_sub_cancel] at hv0
  have HV := Lib.hid hv0
  have HT := Lib.hid (And.intro hown htab)
  clear hcell hcell2 hx hw hown htab hv0
  go_enter Tryd.func18, Tryd.ntmps18
  go_wp2_with (go_at_call 38; refine ha.out.mono ?_; rintro e w1 ⟨v1, rfl, h1, h2, h3⟩; refine Hid.out ?_)
  refine Lib.hid ?_
  have hO : OutR B w T l p v1 w1 := by
    refine ⟨?_, h2⟩
    rw [HV.out]
    exact txt_of h1 rfl
  have HO := Lib.hid hO
  clear hO h1 h2 h3
  go_wp2
  go_loopg [0, 5] p (fun g v x wr => ∃ i : Int, i + 1 = g ∧ x = .int .i64 i ∧ g ≤ p ∧ Hid (OutR B w T l g v wr))
  case atStart => exact ⟨(p : Int) - 1, by omega, by first | rfl | (congr 1; omega), Nat.le_refl _, HO⟩
  case round =>
    obtain ⟨i, hig, rfl, hgp, HR⟩ := hrel
    obtain ⟨gg, hgg⟩ : ∃ x, x = gk := ⟨_, rfl⟩
    cases gk with
    | zero =>
      have hi0 : i < 0 := by omega
      go_wp2
      go_ret
      have hO : Txt wr B u0 (T ++ decDigits (val (l.drop 0))) := HR.out.1
      rw [List.drop_zero] at hO
      exact ⟨_, rfl, hO, HR.out.2⟩
    | succ k =>
      obtain rfl : i = (k : Int) := by omega
      have hi0 : (0 : Int) ≤ (k : Int) := by omega
      have HI := Lib.hid (inR_start HR.out)
      clear HR
      go_wp2
      go_loopg [0, 6] 9 (fun j v x wr => ∃ U : Nat, x = .int .u32 U ∧ j ≤ 9 ∧ Hid (U = un j) ∧ Hid (InR B w T l k j v wr))
      case atStart => exact ⟨100000000, rfl, by omega, Lib.hid rfl, HI⟩
      case round =>
        obtain ⟨U, rfl, hj9, HU, HI2⟩ := hrel
        obtain ⟨jj, hjj⟩ : ∃ x, x = gk := ⟨_, rfl⟩
        cases gk with
        | zero =>
          obtain rfl : U = 0 := HU.out
          clear hjj
          go_wp2
          go_roundg k
          case measure => omega
          case rel =>
            exact ⟨(k : Int) - 1, by omega, rfl, by omega, Lib.hid (inR_end HW.out.2.2.1 (by omega) (val_drop_pos HW.out.2.2 (by omega)) HI2.out)⟩
        | succ m =>
          have hU0 : 0 < U := by rw [HU.out, un_succ]; exact Nat.pow_pos (by omega)
          have hU8 : U ≤ 100000000 := by
            rw [HU.out, un_succ]
            exact (Nat.pow_le_pow_right (by omega) (by omega) : 10 ^ m ≤ 10 ^ 8)
          have hUn := Lib.hid (show U / 10 = un m by rw [HU.out, un_succ, un_next])
          have hUp := Lib.hid (show U = 10 ^ m by rw [HU.out, un_succ])
          have hck := HC.out wr HI2.out.2 k (by omega)
          have hlo := HW.out.2.2.1 k
          obtain ⟨x, hx⟩ : ∃ x, nth l k = x := ⟨_, rfl⟩
          rw [hx] at hck hlo
          obtain ⟨d, hd⟩ : ∃ d : Nat, x / U % 10 = d := ⟨_, rfl⟩
          have hd10 : d < 10 := by rw [← hd]; exact Nat.mod_lt _ (by omega)
          have hdi : ((x : Int) / (U : Int)) % 10 = (d : Int) := by rw [← hd]; omega
          have hqb : (x : Int) / (U : Int) ≤ (x : Int) := by
            have : x / U ≤ x := Nat.div_le_self _ _
            omega
          have hq0 : (0 : Int) ≤ (x : Int) / (U : Int) := Int.ediv_nonneg (by omega) (by omega)
          have HX := Lib.hid (And.intro hx hd)
          have hUz : ¬ (U : Int) = 0 := by omega
          have hln2 : (T ++ decDigits (val (l.drop (k + 1))) ++ pad (9 - (m + 1)) (nth l k / 10 ^ (m + 1))).length ≤ 200000 := by
            have h1 := drop_text_len HW.out.2.2.1 (g := k + 1) (by omega)
            rw [List.length_append, List.length_append, pad_length]; omega
          have hO2 := txt_hide HI2.out.1
          have hBw : B ≤ wr.heap.size := by have := HI2.out.2.size; omega
          obtain ⟨Y, hY⟩ : ∃ Y, T ++ decDigits (val (l.drop (k + 1))) ++ pad (9 - (m + 1)) (nth l k / 10 ^ (m + 1)) = Y := ⟨_, rfl⟩
          rw [hY] at hln2 hO2
          obtain ⟨LL, hLL⟩ : ∃ LL, Y.length = LL := ⟨_, rfl⟩
          rw [hLL] at hln2 hO2
          have HL := Lib.hid (And.intro hY hLL)
          clear hx hd hLL hjj hY
          go_wp2_with (at_builtin; refine wpList_append_own _ rfl _ _ 38 rfl B 5 i0 (.int .u8 0) 1 1 Tryd.underlying38 hi hz0 hz1 hz2 rfl (by decide) _ _ _ rfl (hO2.alloc _) ⟨wr.heap.size, 0, none⟩ 1 1 [.int .u8 (48 + (d : Int))] rfl rfl (cell_one_new _ _ _) ?c2 ?c3 ?c4 ?c5 ?_)
          case c2 => intro u hu; simp at hu; subst hu; rfl
          case c3 => unfold maxLen; omega
          case c4 => omega
          case c5 => simp; omega
          intro v' w3 hown3 hgrow3 hnil3
          have hb3 : Below B w w3 := (HI2.out.2.alloc hBw _).grown hgrow3 (by simp; omega) (fun q hq => (hO2.lt q hq).1)
          have HI3 := Lib.hid (inR_step (T := T) (l := l) (k := k) (m := m) (d := d) (by omega) (by rw [HX.out.1, ← hUp.out]; exact HX.out.2.symm) HI2.out hb3 (by rw [HL.out.1, HL.out.2, Int.natCast_add]; exact hown3))
          clear hb3 hO2 hown3 hgrow3
          go_wp2
          go_roundg m
          case measure => omega
          case rel => exact ⟨U / 10, by first | rfl | (congr 1; omega), by omega, hUn, HI3⟩

set_option maxRecDepth 20000 in
theorem appendDigits_none (B : Nat) (T : List UInt8) (sv : Value) (w : World) (xa : Option Addr) (xcap : Nat) (hB : B ≤ w.heap.size) (hown : Txt w B sv T) (hT : T.length ≤ 100000) :
    Calls Tryd.prog 18 #[sv, .slice xa 0 xcap] w (DigT B w (T ++ decDigits 0)) := by
  obtain ⟨i0, hi, hz0, hz1, hz2⟩ := info_parts Tryd.info5
  have hO2 := txt_hide hown
  have HT := Lib.hid hown
  clear hown
  go_enter Tryd.func18, Tryd.ntmps18
  go_wp2_with (at_builtin; refine wpList_append_own _ rfl _ _ 38 rfl B 5 i0 (.int .u8 0) 1 1 Tryd.underlying38 hi hz0 hz1 hz2 rfl (by decide) _ _ _ rfl (hO2.alloc _) ⟨w.heap.size, 0, none⟩ 1 1 [.int .u8 48] rfl rfl (cell_one_new _ _ _) ?c2 ?c3 ?c4 ?c5 ?_)
  case c2 => intro u hu; simp at hu; subst hu; rfl
  case c3 => unfold maxLen; omega
  case c4 => omega
  case c5 => simp; omega
  intro v' w3 hown3 hgrow3 hnil3
  have hb3 : Below B w w3 := ((Below.refl B w).alloc hB _).grown hgrow3 (by simp; omega) (fun q hq => (hO2.lt q hq).1)
  have HI3 := Lib.hid (show Txt w3 B v' (T ++ decDigits 0) from txt_of (n := T.length + 1) (by rw [dec_zero, byte_one]; exact hown3) (by rw [dec_zero]; rfl))
  clear hown3 hgrow3 hO2
  go_wp2
  go_ret
  exact ⟨_, rfl, HI3.out, hb3⟩

theorem appendDigits_any (B : Nat) (T : List UInt8) (sv xv : Value) (w0 w : World) (x : Nat) (hx : Nt w0 xv x) (hk : x < pw 1000) (hB0 : w0.heap.size ≤ B) (hB : B ≤ w.heap.size)
    (hw : Below w0.heap.size w0 w) (hown : Txt w B sv T) (hT : T.length ≤ 100000) (htab : TabP B w) : Calls Tryd.prog 18 #[sv, xv] w (DigT B w (T ++ decDigits x)) := by
  obtain ⟨l, h1, h2, rfl⟩ := hx
  have hlen := cano_len h2 hk
  have h1' := h1
  obtain ⟨a, cap, rfl, -⟩ := h1
  rcases Nat.eq_zero_or_pos l.length with h | h
  · obtain rfl := List.eq_nil_of_length_eq_zero h
    exact appendDigits_none B T sv w a cap hB hown hT
  · exact appendDigits_some B T sv w0 w a l.length cap l h1' rfl h h2 hlen hB0 hB hw hown hT htab
end Go.Proofs.YtafhepbplffmeaaDoor

/-
  The walk of Format. Conditions: the number is one that can be read; the table of powers of ten reads as it is laid.
-/
namespace Go.Proofs.YtafhepbplffmeaaDoor
open Go.RowKit Num
open Go.Lib (decDigits)

theorem TabP.up {B B' : Nat} {w W : World} (h : TabP B w) (hb : Below B w W) (hB : B ≤ B') : TabP B' W := fun w' h' => h w' (hb.trans (h'.mono hB))
def StrP (l : List UInt8) (w : World) (e : Ending) (w' : World) : Prop := e = .returned (.string ⟨l.toArray⟩) ∧ Below w.heap.size w w'

theorem den_cases {w : World} {xd : Option Addr} {ld cd x : Nat} (h : Nt w (.slice xd ld cd) x) (h0 : 0 < x) :
    (x = 1 ∧ ld = 1 ∧ ∃ b o, xd = some ⟨b, o, none⟩ ∧ w.cell? ⟨b, o, none⟩ = some (.int .u32 1)) ∨
    (x ≠ 1 ∧ ld = 1 ∧ ∃ b o, ∃ y : Nat, xd = some ⟨b, o, none⟩ ∧ w.cell? ⟨b, o, none⟩ = some (.int .u32 (y : Int)) ∧ y ≠ 1) ∨ (x ≠ 1 ∧ 1 < ld) := by
  obtain ⟨l, h1, h2, rfl⟩ := h
  obtain ⟨a, c, e, _, _, _, h4⟩ := h1
  simp only [Value.slice.injEq] at e
  obtain ⟨rfl, rfl, rfl⟩ := e
  by_cases e1 : val l = 1
  · have := one_list h2 e1
    subst this
    obtain ⟨b, o, e, hc⟩ := h4 0 (by simp)
    exact .inl ⟨e1, rfl, b, o, e, hc⟩
  · by_cases e2 : 1 < l.length
    · exact .inr (.inr ⟨e1, e2⟩)
    · have hl : l.length = 1 := by
        rcases Nat.eq_zero_or_pos l.length with h | h
        · rw [List.eq_nil_of_length_eq_zero h] at h0; exact absurd h0 (by decide)
        · omega
      obtain ⟨b, o, e, hc⟩ := h4 0 (by omega)
      refine .inr (.inl ⟨e1, hl, b, o, nth l 0, e, hc, ?_⟩)
      intro h
      match l, hl with
      | [y], _ => exact e1 (by rw [nth_cons_zero] at h; subst h; rfl)

theorem txt_string {w : World} {B : Nat} {v : Value} {l : List UInt8} (h : Txt w B v l) (h0 : 0 < l.length) : ∃ g cap, v = .slice (some ⟨g, 0, none⟩) l.length cap ∧ (convert 38 9 (.slice (some ⟨g, 0, none⟩) l.length cap)).run Tryd.prog w = .ok (.string ⟨l.toArray⟩) w := by
  unfold Txt at h
  rcases h.2 with ⟨-, h1⟩ | ⟨g, cap, cur, rfl, -, -, -, -, -, -⟩
  · omega
  · exact ⟨g, cap, rfl, run_convert_bytes_back (P := Tryd.prog) w 38 9 5 ⟨g, 0, none⟩ cap l Tryd.underlying38 Tryd.underlying5 Tryd.underlying9 (fun j hj => h.cells (g := g) rfl j (.int .u8 (l[j].toNat : Int)) (by show (l.map fun b => Value.int .u8 (b.toNat : Int))[j]? = _; rw [List.getElem?_map, List.getElem?_eq_getElem hj]; rfl))⟩

set_option maxHeartbeats 4000000 in
set_option maxRecDepth 20000 in
theorem format_any (neg : Bool) (an ad : Option Addr) (n1 c1 n2 c2 k : Nat) (q : Rat) (w : World) (hq : RatV w neg an n1 c1 ad n2 c2 k q) (hk : k ≤ 900) (htab : TabP w.heap.size w) :
    Calls Tryd.prog 7 #[.agg #[.bool neg, .slice an n1 c1, .slice ad n2 c2]] w (StrP (qtxt q) w) := by
  obtain ⟨i0, hi, hz0, hz1, hz2⟩ := info_parts Tryd.info5
  have hsz := hq.sz
  have HA := Lib.hid (And.intro hq (And.intro htab hsz))
  clear hq htab hsz
  go_enter Tryd.func7, Tryd.ntmps7
  go_wp2_with fail
  refine (Canonical_any _ k q _ (HA.out.1.a.below (below_alloc1 w _)) (by omega)).mono ?_
  rintro e w1 ⟨v1, rfl, hc1, hb1⟩
  obtain ⟨xn, ln, cn, xd, ld, cd, rfl, hn, hd⟩ := hc1
  obtain ⟨s, hs⟩ : ∃ s, decide (q.num < 0) = s := ⟨_, rfl⟩
  rw [hs]
  have hbx := BoxV.new w1 w1.heap.size 24 (Nat.le_refl _) [.bool s, .slice xn ln cn, .slice xd ld cd]
  obtain ⟨⟨k0, k1, k2⟩, _⟩ := hbx.three
  have hb2 := below_alloc1 w1 (.cells #[.bool s, .slice xn ln cn, .slice xd ld cd] 24)
  have hbw := below_next' (below_next' (below_alloc1 w (.cells #[.bool neg, .slice an n1 c1, .slice ad n2 c2] 24)) hb1) hb2
  have H1 := Lib.hid (And.intro hs (And.intro hn (And.intro hd (And.intro hbx (And.intro hb2 hbw)))))
  clear hs hn hd hbx hb1 hb2 hbw
  have HZ := Lib.hid (show w.heap.size ≤ w1.heap.size + 1 by have := H1.out.2.2.2.2.2.size; simp at this; omega)
  have htab1 : TabP (w1.heap.size + 1) (w1.alloc (.cells #[.bool s, .slice xn ln cn, .slice xd ld cd] 24)) := HA.out.2.1.up H1.out.2.2.2.2.2 HZ.out
  have HTab := Lib.hid htab1
  clear htab1
  cases s
  · have H0 := Lib.hid (of_decide_eq_false H1.out.1)
    go_wp2_with fail
    refine (appendDigits_any (w1.heap.size + 1) [] (.slice none 0 0) _ w1 _ q.num.natAbs H1.out.2.1 (Nat.lt_of_lt_of_le HA.out.2.2.1 (pw_le (by omega))) (by omega) (by simp) H1.out.2.2.2.2.1 (txt_nil _ _) (by simp) HTab.out).mono ?_
    rintro e w3 ⟨v3, rfl, ht3, hb3⟩
    have hb13 : Below w1.heap.size w1 w3 := H1.out.2.2.2.2.1.trans (hb3.mono (by omega))
    have hbx3 : Below (w1.heap.size + 1) (w1.alloc (.cells #[.bool false, .slice xn ln cn, .slice xd ld cd] 24)) w3 := (Below.refl _ _).trans hb3
    have k2a := k2
    have k1 := (hbx3.cell (p := ⟨w1.heap.size, 1, none⟩) (by simp)).trans k1
    have k2 := (hbx3.cell (p := ⟨w1.heap.size, 2, none⟩) (by simp)).trans k2
    have hd3 := H1.out.2.2.1.below hb13
    have hbw3 : Below w.heap.size w w3 := H1.out.2.2.2.2.2.trans (hbx3.mono HZ.out)
    obtain ⟨Y, hY⟩ : ∃ Y, [] ++ decDigits q.num.natAbs = Y := ⟨_, rfl⟩
    rw [hY] at ht3
    have hYp : 0 < Y.length := by rw [← hY, List.length_append]; have := Go.Lib.nDigits_pos q.num.natAbs; rw [Go.Lib.decDigits_length]; omega
    have hYl : Y.length ≤ 90000 := by
      rw [← hY, List.length_append]
      have h1 := HA.out.2.2.1
      rw [pw_ten] at h1
      have := dec_length_le _ _ h1 (by omega)
      first
      | (rw [List.length_nil]; omega)
      | (rw [List.length_singleton]; omega)
    have HY := Lib.hid (And.intro hY hbw3)
    have H3 := Lib.hid (And.intro hb13 (And.intro hbx3 (And.intro hbw3 (And.intro hb3 ht3))))
    have hz3 : w1.heap.size + 1 ≤ w3.heap.size := by have := hbx3.size; simp at this; omega
    clear hb13 hbx3 hbw3 hb3 hY
    rcases den_cases hd3 q.den_pos with ⟨h1, rfl, b, o, rfl, hc⟩ | ⟨h1, rfl, b, o, y, rfl, hc, hy⟩ | ⟨h1, h2⟩
    · have HQ := Lib.hid (show Y = qtxt q by rw [← HY.out.1, qtxt, if_neg (by have := H0.out; omega), tailT, if_pos h1, List.append_nil])
      obtain ⟨g, cap, rfl, hcv⟩ := txt_string ht3 hYp
      obtain ⟨ZL, hZL⟩ : ∃ ZL, Y.length = ZL := ⟨_, rfl⟩
      rw [hZL] at hcv ⊢
      clear ht3 h1 hd3 hYp hYl hZL k2a
      go_wp2
      go_ret
      exact ⟨by rw [← HQ.out]; rfl, HY.out.2⟩
    · have HH := Lib.hid h1
      have hyy : ((y : Int) == 1) = false := by rw [beq_eq_false_iff_ne]; omega
      have HTxt := Lib.hid ht3
      clear ht3 h1 hd3 hy
      go_wp2_with (at_builtin; refine wpList_append_own _ rfl _ _ 38 rfl (w1.heap.size + 1) 5 i0 (.int .u8 0) 1 1 Tryd.underlying38 hi hz0 hz1 hz2 rfl (by decide) _ _ _ rfl ((txt_hide H3.out.2.2.2.2).alloc _) ⟨w3.heap.size, 0, none⟩ 1 1 [.int .u8 47] rfl rfl ?c1 ?c2 ?c3 ?c4 ?c5 ?_)
      case c1 => first | exact cell_one_new _ _ _ | (intro j u hj; have := cell_one_new (w1.alloc (.cells #[.bool true, .slice xn ln cn, .slice xd ld cd] 24)) (.int .u8 45) 5 j u hj; simpa using this)
      case c2 => intro u hu; simp at hu; subst hu; rfl
      case c3 => unfold maxLen; omega
      case c4 => omega
      case c5 => simp; try omega
      intro v4 w4 hown4 hgrow4 _
      have ht4 : Txt w4 (w1.heap.size + 1) v4 (Y ++ [47]) := txt_of (n := Y.length + 1) (by rw [byte_one]; exact hown4) rfl
      have hb34 : Below (w1.heap.size + 1) w3 w4 := ((Below.refl _ w3).alloc hz3 _).grown hgrow4 (by simp; omega) (fun k hk => ((txt_hide H3.out.2.2.2.2).lt k hk).1)
      have hbx4 := H3.out.2.1.trans hb34
      have k2 := (hbx4.cell (p := ⟨w1.heap.size, 2, none⟩) (by simp)).trans k2a
      have hz4 : w1.heap.size + 1 ≤ w4.heap.size := by have := hb34.size; omega
      have hb14 : Below w1.heap.size w1 w4 := H3.out.1.trans (hb34.mono (by omega))
      have htab4 : TabP (w1.heap.size + 1) w4 := HTab.out.up hbx4 (Nat.le_refl _)
      have HD := Lib.hid (appendDigits_any (w1.heap.size + 1) (Y ++ [47]) v4 _ w1 w4 q.den H1.out.2.2.1 (Nat.lt_of_lt_of_le HA.out.2.2.2 (pw_le (by omega))) (by omega) hz4 hb14 ht4 (by rw [List.length_append, List.length_singleton]; omega) htab4)
      have H4 := Lib.hid hbx4
      clear hown4 hgrow4 ht4 hb34 hbx4 hb14 htab4 HTxt
      go_wp2_with (go_at_call 18; refine HD.out.mono ?_; rintro e w5 ⟨v5, rfl, ht5, hb5⟩; refine Hid.out ?_)
      refine Lib.hid ?_
      have hbw5 : Below w.heap.size w w5 := H1.out.2.2.2.2.2.trans ((H4.out.trans hb5).mono HZ.out)
      obtain ⟨Z, hZ⟩ : ∃ Z, Y ++ [47] ++ decDigits q.den = Z := ⟨_, rfl⟩
      rw [hZ] at ht5
      have hZp : 0 < Z.length := by rw [← hZ, List.length_append, List.length_append, List.length_singleton]; omega
      have HQ := Lib.hid (show Z = qtxt q by rw [← hZ, ← HY.out.1, qtxt, if_neg (by have := H0.out; omega), tailT, if_neg HH.out]; simp)
      clear hZ hb5
      obtain ⟨g, cap, rfl, hcv⟩ := txt_string ht5 hZp
      clear ht5 hZp
      obtain ⟨ZL, hZL⟩ : ∃ ZL, Z.length = ZL := ⟨_, rfl⟩
      rw [hZL] at hcv ⊢
      clear hZL
      go_wp2
      go_ret
      exact ⟨by rw [← HQ.out]; rfl, hbw5⟩
    · have HH := Lib.hid h1
      have hll : (1 : Int) < (ld : Int) := by omega
      have HTxt := Lib.hid ht3
      clear ht3 h1 hd3
      go_wp2_with (at_builtin; refine wpList_append_own _ rfl _ _ 38 rfl (w1.heap.size + 1) 5 i0 (.int .u8 0) 1 1 Tryd.underlying38 hi hz0 hz1 hz2 rfl (by decide) _ _ _ rfl ((txt_hide H3.out.2.2.2.2).alloc _) ⟨w3.heap.size, 0, none⟩ 1 1 [.int .u8 47] rfl rfl ?c1 ?c2 ?c3 ?c4 ?c5 ?_)
      case c1 => first | exact cell_one_new _ _ _ | (intro j u hj; have := cell_one_new (w1.alloc (.cells #[.bool true, .slice xn ln cn, .slice xd ld cd] 24)) (.int .u8 45) 5 j u hj; simpa using this)
      case c2 => intro u hu; simp at hu; subst hu; rfl
      case c3 => unfold maxLen; omega
      case c4 => omega
      case c5 => simp; try omega
      intro v4 w4 hown4 hgrow4 _
      have ht4 : Txt w4 (w1.heap.size + 1) v4 (Y ++ [47]) := txt_of (n := Y.length + 1) (by rw [byte_one]; exact hown4) rfl
      have hb34 : Below (w1.heap.size + 1) w3 w4 := ((Below.refl _ w3).alloc hz3 _).grown hgrow4 (by simp; omega) (fun k hk => ((txt_hide H3.out.2.2.2.2).lt k hk).1)
      have hbx4 := H3.out.2.1.trans hb34
      have k2 := (hbx4.cell (p := ⟨w1.heap.size, 2, none⟩) (by simp)).trans k2a
      have hz4 : w1.heap.size + 1 ≤ w4.heap.size := by have := hb34.size; omega
      have hb14 : Below w1.heap.size w1 w4 := H3.out.1.trans (hb34.mono (by omega))
      have htab4 : TabP (w1.heap.size + 1) w4 := HTab.out.up hbx4 (Nat.le_refl _)
      have HD := Lib.hid (appendDigits_any (w1.heap.size + 1) (Y ++ [47]) v4 _ w1 w4 q.den H1.out.2.2.1 (Nat.lt_of_lt_of_le HA.out.2.2.2 (pw_le (by omega))) (by omega) hz4 hb14 ht4 (by rw [List.length_append, List.length_singleton]; omega) htab4)
      have H4 := Lib.hid hbx4
      clear hown4 hgrow4 ht4 hb34 hbx4 hb14 htab4 HTxt
      go_wp2_with (go_at_call 18; refine HD.out.mono ?_; rintro e w5 ⟨v5, rfl, ht5, hb5⟩; refine Hid.out ?_)
      refine Lib.hid ?_
      have hbw5 : Below w.heap.size w w5 := H1.out.2.2.2.2.2.trans ((H4.out.trans hb5).mono HZ.out)
      obtain ⟨Z, hZ⟩ : ∃ Z, Y ++ [47] ++ decDigits q.den = Z := ⟨_, rfl⟩
      rw [hZ] at ht5
      have hZp : 0 < Z.length := by rw [← hZ, List.length_append, List.length_append, List.length_singleton]; omega
      have HQ := Lib.hid (show Z = qtxt q by rw [← hZ, ← HY.out.1, qtxt, if_neg (by have := H0.out; omega), tailT, if_neg HH.out]; simp)
      clear hZ hb5
      obtain ⟨g, cap, rfl, hcv⟩ := txt_string ht5 hZp
      clear ht5 hZp
      obtain ⟨ZL, hZL⟩ : ∃ ZL, Z.length = ZL := ⟨_, rfl⟩
      rw [hZL] at hcv ⊢
      clear hZL
      go_wp2
      go_ret
      exact ⟨by rw [← HQ.out]; rfl, hbw5⟩
  · have H0 := Lib.hid (of_decide_eq_true H1.out.1)
    go_wp2_with (at_builtin; refine wpList_append_own _ rfl _ _ 38 rfl (w1.heap.size + 1) 5 i0 (.int .u8 0) 1 1 Tryd.underlying38 hi hz0 hz1 hz2 rfl (by decide) (.slice none 0 0) 0 [] rfl (World.ownsRow_nil _ _ _ _) ⟨w1.heap.size + 1, 0, none⟩ 1 1 [.int .u8 45] rfl rfl ?c1 ?c2 ?c3 ?c4 ?c5 ?_)
    case c1 => first | exact cell_one_new _ _ _ | (intro j u hj; have := cell_one_new (w1.alloc (.cells #[.bool true, .slice xn ln cn, .slice xd ld cd] 24)) (.int .u8 45) 5 j u hj; simpa using this)
    case c2 => intro u hu; simp at hu; subst hu; rfl
    case c3 => unfold maxLen; omega
    case c4 => omega
    case c5 => simp; try omega
    intro v2 w2 hown2 hgrow2 _
    have ht2 : Txt w2 (w1.heap.size + 1) v2 [45] := txt_of (l := []) (m := [45]) (n := 0 + 1) (by rw [byte_one]; exact hown2) rfl
    have hbx2 : Below (w1.heap.size + 1) (w1.alloc (.cells #[.bool true, .slice xn ln cn, .slice xd ld cd] 24)) w2 := ((Below.refl _ _).alloc (by simp) _).grown hgrow2 (by simp; try omega) (by simp [Value.ownBlock])
    have k1 := (hbx2.cell (p := ⟨w1.heap.size, 1, none⟩) (by simp)).trans k1
    have k2b := k2
    have k2 := (hbx2.cell (p := ⟨w1.heap.size, 2, none⟩) (by simp)).trans k2
    have hb12 : Below w1.heap.size w1 w2 := H1.out.2.2.2.2.1.trans (hbx2.mono (by omega))
    have hz2' : w1.heap.size + 1 ≤ w2.heap.size := by have := hbx2.size; simp at this; omega
    have H2 := Lib.hid (And.intro ht2 (And.intro hbx2 (And.intro hb12 (HTab.out.up hbx2 (Nat.le_refl _)))))
    clear hown2 hgrow2 ht2 hbx2 hb12
    go_wp2_with fail
    have k2 := k2b
    have k1 := (show (w1.alloc (.cells #[.bool true, .slice xn ln cn, .slice xd ld cd] 24)).cell? ⟨w1.heap.size, 1, none⟩ = some (.slice xn ln cn) from H1.out.2.2.2.1.cell 1 (by simp))
    refine (appendDigits_any (w1.heap.size + 1) [45] v2 _ w1 _ q.num.natAbs H1.out.2.1 (Nat.lt_of_lt_of_le HA.out.2.2.1 (pw_le (by omega))) (by omega) hz2' H2.out.2.2.1 H2.out.1 (by simp) H2.out.2.2.2).mono ?_
    rintro e w3 ⟨v3, rfl, ht3, hb3⟩
    have hb13 : Below w1.heap.size w1 w3 := H2.out.2.2.1.trans (hb3.mono (by omega))
    have hbx3 : Below (w1.heap.size + 1) (w1.alloc (.cells #[.bool true, .slice xn ln cn, .slice xd ld cd] 24)) w3 := H2.out.2.1.trans hb3
    have k2a := k2
    have k1 := (hbx3.cell (p := ⟨w1.heap.size, 1, none⟩) (by simp)).trans k1
    have k2 := (hbx3.cell (p := ⟨w1.heap.size, 2, none⟩) (by simp)).trans k2
    have hd3 := H1.out.2.2.1.below hb13
    have hbw3 : Below w.heap.size w w3 := H1.out.2.2.2.2.2.trans (hbx3.mono HZ.out)
    obtain ⟨Y, hY⟩ : ∃ Y, [45] ++ decDigits q.num.natAbs = Y := ⟨_, rfl⟩
    rw [hY] at ht3
    have hYp : 0 < Y.length := by rw [← hY, List.length_append]; have := Go.Lib.nDigits_pos q.num.natAbs; rw [Go.Lib.decDigits_length]; omega
    have hYl : Y.length ≤ 90000 := by
      rw [← hY, List.length_append]
      have h1 := HA.out.2.2.1
      rw [pw_ten] at h1
      have := dec_length_le _ _ h1 (by omega)
      first
      | (rw [List.length_nil]; omega)
      | (rw [List.length_singleton]; omega)
    have HY := Lib.hid (And.intro hY hbw3)
    have H3 := Lib.hid (And.intro hb13 (And.intro hbx3 (And.intro hbw3 (And.intro hb3 ht3))))
    have hz3 : w1.heap.size + 1 ≤ w3.heap.size := by have := hbx3.size; simp at this; omega
    clear hb13 hbx3 hbw3 hb3 hY
    rcases den_cases hd3 q.den_pos with ⟨h1, rfl, b, o, rfl, hc⟩ | ⟨h1, rfl, b, o, y, rfl, hc, hy⟩ | ⟨h1, h2⟩
    · have HQ := Lib.hid (show Y = qtxt q by rw [← HY.out.1, qtxt, if_pos (by have := H0.out; omega), tailT, if_pos h1, List.append_nil])
      obtain ⟨g, cap, rfl, hcv⟩ := txt_string ht3 hYp
      obtain ⟨ZL, hZL⟩ : ∃ ZL, Y.length = ZL := ⟨_, rfl⟩
      rw [hZL] at hcv ⊢
      clear ht3 h1 hd3 hYp hYl hZL k2a
      go_wp2
      go_ret
      exact ⟨by rw [← HQ.out]; rfl, HY.out.2⟩
    · have HH := Lib.hid h1
      have hyy : ((y : Int) == 1) = false := by rw [beq_eq_false_iff_ne]; omega
      have HTxt := Lib.hid ht3
      clear ht3 h1 hd3 hy
      go_wp2_with (at_builtin; refine wpList_append_own _ rfl _ _ 38 rfl (w1.heap.size + 1) 5 i0 (.int .u8 0) 1 1 Tryd.underlying38 hi hz0 hz1 hz2 rfl (by decide) _ _ _ rfl ((txt_hide H3.out.2.2.2.2).alloc _) ⟨w3.heap.size, 0, none⟩ 1 1 [.int .u8 47] rfl rfl ?c1 ?c2 ?c3 ?c4 ?c5 ?_)
      case c1 => first | exact cell_one_new _ _ _ | (intro j u hj; have := cell_one_new (w1.alloc (.cells #[.bool true, .slice xn ln cn, .slice xd ld cd] 24)) (.int .u8 45) 5 j u hj; simpa using this)
      case c2 => intro u hu; simp at hu; subst hu; rfl
      case c3 => unfold maxLen; omega
      case c4 => omega
      case c5 => simp; try omega
      intro v4 w4 hown4 hgrow4 _
      have ht4 : Txt w4 (w1.heap.size + 1) v4 (Y ++ [47]) := txt_of (n := Y.length + 1) (by rw [byte_one]; exact hown4) rfl
      have hb34 : Below (w1.heap.size + 1) w3 w4 := ((Below.refl _ w3).alloc hz3 _).grown hgrow4 (by simp; omega) (fun k hk => ((txt_hide H3.out.2.2.2.2).lt k hk).1)
      have hbx4 := H3.out.2.1.trans hb34
      have k2 := (hbx4.cell (p := ⟨w1.heap.size, 2, none⟩) (by simp)).trans k2a
      have hz4 : w1.heap.size + 1 ≤ w4.heap.size := by have := hb34.size; omega
      have hb14 : Below w1.heap.size w1 w4 := H3.out.1.trans (hb34.mono (by omega))
      have htab4 : TabP (w1.heap.size + 1) w4 := HTab.out.up hbx4 (Nat.le_refl _)
      have HD := Lib.hid (appendDigits_any (w1.heap.size + 1) (Y ++ [47]) v4 _ w1 w4 q.den H1.out.2.2.1 (Nat.lt_of_lt_of_le HA.out.2.2.2 (pw_le (by omega))) (by omega) hz4 hb14 ht4 (by rw [List.length_append, List.length_singleton]; omega) htab4)
      have H4 := Lib.hid hbx4
      clear hown4 hgrow4 ht4 hb34 hbx4 hb14 htab4 HTxt
      go_wp2_with (go_at_call 18; refine HD.out.mono ?_; rintro e w5 ⟨v5, rfl, ht5, hb5⟩; refine Hid.out ?_)
      refine Lib.hid ?_
      have hbw5 : Below w.heap.size w w5 := H1.out.2.2.2.2.2.trans ((H4.out.trans hb5).mono HZ.out)
      obtain ⟨Z, hZ⟩ : ∃ Z, Y ++ [47] ++ decDigits q.den = Z := ⟨_, rfl⟩
      rw [hZ] at ht5
      have hZp : 0 < Z.length := by rw [← hZ, List.length_append, List.length_append, List.length_singleton]; omega
      have HQ := Lib.hid (show Z = qtxt q by rw [← hZ, ← HY.out.1, qtxt, if_pos (by have := H0.out; omega), tailT, if_neg HH.out]; simp)
      clear hZ hb5
      obtain ⟨g, cap, rfl, hcv⟩ := txt_string ht5 hZp
      clear ht5 hZp
      obtain ⟨ZL, hZL⟩ : ∃ ZL, Z.length = ZL := ⟨_, rfl⟩
      rw [hZL] at hcv ⊢
      clear hZL
      go_wp2
      go_ret
      exact ⟨by rw [← HQ.out]; rfl, hbw5⟩
    · have HH := Lib.hid h1
      have hll : (1 : Int) < (ld : Int) := by omega
      have HTxt := Lib.hid ht3
      clear ht3 h1 hd3
      go_wp2_with (at_builtin; refine wpList_append_own _ rfl _ _ 38 rfl (w1.heap.size + 1) 5 i0 (.int .u8 0) 1 1 Tryd.underlying38 hi hz0 hz1 hz2 rfl (by decide) _ _ _ rfl ((txt_hide H3.out.2.2.2.2).alloc _) ⟨w3.heap.size, 0, none⟩ 1 1 [.int .u8 47] rfl rfl ?c1 ?c2 ?c3 ?c4 ?c5 ?_)
      case c1 => first | exact cell_one_new _ _ _ | (intro j u hj; have := cell_one_new (w1.alloc (.cells #[.bool true, .slice xn ln cn, .slice xd ld cd] 24)) (.int .u8 45) 5 j u hj; simpa using this)
      case c2 => intro u hu; simp at hu; subst hu; rfl
      case c3 => unfold maxLen; omega
      case c4 => omega
      case c5 => simp; try omega
      intro v4 w4 hown4 hgrow4 _
      have ht4 : Txt w4 (w1.heap.size + 1) v4 (Y ++ [47]) := txt_of (n := Y.length + 1) (by rw [byte_one]; exact hown4) rfl
      have hb34 : Below (w1.heap.size + 1) w3 w4 := ((Below.refl _ w3).alloc hz3 _).grown hgrow4 (by simp; omega) (fun k hk => ((txt_hide H3.out.2.2.2.2).lt k hk).1)
      have hbx4 := H3.out.2.1.trans hb34
      have k2 := (hbx4.cell (p := ⟨w1.heap.size, 2, none⟩) (by simp)).trans k2a
      have hz4 : w1.heap.size + 1 ≤ w4.heap.size := by have := hb34.size; omega
      have hb14 : Below w1.heap.size w1 w4 := H3.out.1.trans (hb34.mono (by omega))
      have htab4 : TabP (w1.heap.size + 1) w4 := HTab.out.up hbx4 (Nat.le_refl _)
      have HD := Lib.hid (appendDigits_any (w1.heap.size + 1) (Y ++ [47]) v4 _ w1 w4 q.den H1.out.2.2.1 (Nat.lt_of_lt_of_le HA.out.2.2.2 (pw_le (by omega))) (by omega) hz4 hb14 ht4 (by rw [List.length_append, List.length_singleton]; omega) htab4)
      have H4 := Lib.hid hbx4
      clear hown4 hgrow4 ht4 hb34 hbx4 hb14 htab4 HTxt
      go_wp2_with (go_at_call 18; refine HD.out.mono ?_; rintro e w5 ⟨v5, rfl, ht5, hb5⟩; refine Hid.out ?_)
      refine Lib.hid ?_
      have hbw5 : Below w.heap.size w w5 := H1.out.2.2.2.2.2.trans ((H4.out.trans hb5).mono HZ.out)
      obtain ⟨Z, hZ⟩ : ∃ Z, Y ++ [47] ++ decDigits q.den = Z := ⟨_, rfl⟩
      rw [hZ] at ht5
      have hZp : 0 < Z.length := by rw [← hZ, List.length_append, List.length_append, List.length_singleton]; omega
      have HQ := Lib.hid (show Z = qtxt q by rw [← hZ, ← HY.out.1, qtxt, if_pos (by have := H0.out; omega), tailT, if_neg HH.out]; simp)
      clear hZ hb5
      obtain ⟨g, cap, rfl, hcv⟩ := txt_string ht5 hZp
      clear ht5 hZp
      obtain ⟨ZL, hZL⟩ : ∃ ZL, Z.length = ZL := ⟨_, rfl⟩
      rw [hZL] at hcv ⊢
      clear hZL
      go_wp2
      go_ret
      exact ⟨by rw [← HQ.out]; rfl, hbw5⟩
end Go.Proofs.YtafhepbplffmeaaDoor

/-
  The walks of the reference's natText and Format. Condition: the number is one that can be read.
-/
namespace Go.Proofs.YtafhepbplffmeaaDoor
open Go.RowKit Num
open Go.Lib (decDigits)

theorem run_byte (w : World) (d : Nat) (hd : d < 10) : (convert 38 9 (.slice (some ⟨w.heap.size, 0, none⟩) 1 1)).run Tryd.prog (w.alloc (.cells #[.int .u8 (48 + (d : Int))] 5)) = .ok (.string ⟨#[UInt8.ofNat (48 + d)]⟩) (w.alloc (.cells #[.int .u8 (48 + (d : Int))] 5)) :=
  run_convert_bytes_back (P := Tryd.prog) _ 38 9 5 ⟨w.heap.size, 0, none⟩ 1 [UInt8.ofNat (48 + d)] Tryd.underlying38 Tryd.underlying5 Tryd.underlying9 (fun j hj => by
    have : j = 0 := by simpa using hj
    subst this
    have h := cell_one_new w (.int .u8 (48 + (d : Int))) 5 0 _ rfl
    rw [h, List.getElem_cons_zero, digit_toNat d hd]; rfl)

/-- The text behind i rounds. -/
def outT (l : List Nat) (i : Nat) : List UInt8 := if i < l.length then low l i else decDigits (val l)

structure PartI (x k : Nat) (last : Bool) (p : List UInt8) (v : Nat) : Prop where
  part : p = pad k x
  v : v = x / 10 ^ k
  le : k ≤ 9
  pos : last = true → 0 < k → 0 < x / 10 ^ (k - 1)

theorem partI_zero (x : Nat) (last : Bool) : PartI x 0 last [] x := ⟨rfl, by simp, by omega, fun _ h => absurd h (by omega)⟩
theorem partI_step {x k : Nat} {last : Bool} {p : List UInt8} {v : Nat} (h : PartI x k last p v) (hk : k < 9) (hv : last = true → 0 < v) : PartI x (k + 1) last (UInt8.ofNat (48 + v % 10) :: p) (v / 10) := by
  refine ⟨?_, ?_, by omega, fun hl _ => ?_⟩
  · rw [pad_ahead, h.part, h.v]
  · rw [h.v, Nat.div_div_eq_div_mul, ← Nat.pow_succ]
  · rw [Nat.add_sub_cancel, ← h.v]; exact hv hl
theorem out_next {l : List Nat} (hc : Cano l) {i k v : Nat} {p : List UInt8} (hi : i + 1 < l.length) (h : PartI (nth l i) k false p v) (hk : k = 9) : p ++ outT l i = outT l (i + 1) := by
  subst hk
  unfold outT
  rw [if_pos (by omega), if_pos hi, h.part, low_succ hc.1 i (by omega)]
theorem out_last {l : List Nat} (hc : Cano l) {i k v : Nat} {p : List UInt8} (hi : i + 1 = l.length) (h : PartI (nth l i) k true p v) (hk : k = 9 ∨ v = 0) : p ++ outT l i = outT l (i + 1) := by
  have hx : 0 < nth l i := by
    rcases hc.2 with h1 | h1
    · omega
    · rw [show l.length - 1 = i by omega] at h1; omega
  have hlo := hc.1 i
  have hz : nth l i / 10 ^ k = 0 := by
    rcases hk with rfl | h0
    · exact Nat.div_eq_of_lt hlo
    · rw [← h.v]; exact h0
  have hk0 : 0 < k := by
    rcases Nat.eq_zero_or_pos k with h1 | h1
    · subst h1; rw [Nat.pow_zero, Nat.div_one] at hz; omega
    · exact h1
  unfold outT
  rw [if_pos (by omega), if_neg (by omega), h.part, pad_is_dec hz hk0 (h.pos rfl hk0), dec_low hc.1 i hi hx]
theorem outT_zero {l : List Nat} (h : 0 < l.length) : outT l 0 = [] := by unfold outT; rw [if_pos h, low_zero]
theorem outT_end (l : List Nat) : outT l l.length = decDigits (val l) := by unfold outT; rw [if_neg (by omega)]

theorem outT_len {l : List Nat} (hc : Cano l) (h0 : 0 < l.length) (i : Nat) (_ : i ≤ l.length) : (outT l i).length ≤ 9 * l.length := by
  unfold outT low
  split
  · rw [pad_length]; omega
  · have := drop_text_len hc.1 h0
    rwa [List.drop_zero] at this
def Say (s : ByteArray) (l : List UInt8) : Prop := s.data.toList = l
theorem say_append {s t : ByteArray} {l m : List UInt8} (h1 : Say s l) (h2 : Say t m) : Say (s ++ t) (l ++ m) := by
  unfold Say at *
  rw [← h1, ← h2]; simp
theorem say_size {s : ByteArray} {l : List UInt8} (h : Say s l) : s.size = l.length := by rw [← size_data, h]
theorem say_mk {s : ByteArray} {l : List UInt8} (h : Say s l) : s = ⟨l.toArray⟩ := str_mk h

set_option maxHeartbeats 4000000 in
set_option maxRecDepth 20000 in
theorem natText_some (w : World) (xa : Option Addr) (n xcap : Nat) (l : List Nat) (hx : Lim w (.slice xa n xcap) l) (hln : l.length = n) (h0 : 0 < n) (hc : Cano l) (hl : n ≤ 1000) :
    Calls Tryd.prog 20 #[.slice xa n xcap] w (StrP (decDigits (val l)) w) := by
  have hcell : ∀ W, Below w.heap.size w W → ∀ i, i < n → ∃ b o, xa = some ⟨b, o, none⟩ ∧ W.cell? ⟨b, o + i, none⟩ = some (.int .u32 (nth l i)) := by
    intro W hb i hi
    have h1 := hx.below hb
    obtain ⟨a, c, e, _, _, _, h4⟩ := h1
    simp only [Value.slice.injEq] at e
    obtain ⟨rfl, _, _⟩ := e
    exact h4 i (by omega)
  have hc0 := hcell w (Below.refl _ _) 0 h0
  obtain ⟨b, o, rfl, -⟩ := hc0
  have hcell2 : ∀ W, Below w.heap.size w W → ∀ i, i < n → W.cell? ⟨b, o + i, none⟩ = some (.int .u32 (nth l i)) := by
    intro W hb i hi
    obtain ⟨b', o', e, h⟩ := hcell W hb i hi
    cases e
    exact h
  have HC := Lib.hid (And.intro hcell2 (And.intro hc hln))
  clear hcell hcell2 hx hc
  go_enter Tryd.func20, Tryd.ntmps20
  go_wp2
  go_loopg [3, 4] n (fun g s x wr => ∃ (i : Nat) (O : ByteArray), i + g = n ∧ x = .int .i64 i ∧ s = .string O ∧ Hid (Say O (outT l i)) ∧ Below w.heap.size w wr)
  case atStart => exact ⟨0, _, by omega, rfl, rfl, Lib.hid (by rw [outT_zero (by omega)]; rfl), Below.refl _ _⟩
  case round =>
    obtain ⟨i, O, hig, rfl, rfl, HO, hb⟩ := hrel
    cases gk with
    | zero =>
      have hge : ¬ (i : Int) < (n : Int) := by omega
      have hne : O.toList.isEmpty = false := by
        rw [Lib.toList_data, HO.out]
        have := Go.Lib.nDigits_pos (val l)
        rw [show i = l.length by have := HC.out.2.2; omega, outT_end, List.isEmpty_eq_false_iff]
        intro h
        have h2 := congrArg List.length h
        rw [Go.Lib.decDigits_length, List.length_nil] at h2
        omega
      have hO := say_mk HO.out
      rw [show i = l.length by have := HC.out.2.2; omega, outT_end] at hO
      have HQ := Lib.hid hO
      clear hO
      go_wp2
      go_ret
      exact ⟨by rw [← HQ.out]; rfl, hb⟩
    | succ g =>
      have hlt : (i : Int) < (n : Int) := by omega
      have hck := HC.out.1 wr hb i (by omega)
      obtain ⟨x, hx⟩ : ∃ x, nth l i = x := ⟨_, rfl⟩
      have hx9 : x < 1000000000 := by rw [← hx]; exact HC.out.2.1.1 i
      rw [hx] at hck
      have HX := Lib.hid hx
      have hOs : (O.size : Int) ≤ 8388608 := by
        have h1 := say_size HO.out
        have h2 := outT_len HC.out.2.1 (by have := HC.out.2.2; omega) i (by have := HC.out.2.2; omega)
        have := HC.out.2.2
        omega
      clear hx
      rcases Nat.lt_or_ge (i + 1) n with hlast | hlast
      · have hli : (i : Int) < (n : Int) - 1 := by omega
        go_wp2
        go_loopg [5, 6, 7] 9 (fun g2 a c k wy => ∃ (K V : Nat) (P : ByteArray), K + g2 = 9 ∧ k = .int .i64 K ∧ a = .string P ∧ c = .int .u32 V ∧ V < 1000000000 ∧ Hid (PartI x K false P.data.toList V) ∧ Below w.heap.size w wy)
        case atStart => exact ⟨0, x, _, by omega, rfl, rfl, rfl, hx9, Lib.hid (partI_zero x false), hb⟩
        case round =>
          obtain ⟨K, V, P, hK, rfl, rfl, rfl, hV, HP, hb⟩ := hrel
          have hPs : (P.size : Int) ≤ 8388608 := by
            have h1 := size_data P
            rw [HP.out.part, pad_length] at h1
            omega
          cases gk with
          | zero =>
            have hk9 : ¬ (K : Int) < 9 := by omega
            have HO2 := Lib.hid (say_append (s := P) rfl HO.out)
            have HN := Lib.hid (show P.data.toList ++ outT l i = outT l (i + 1) from out_next HC.out.2.1 (by rw [HC.out.2.2]; omega) (HX.out.symm ▸ HP.out) (by omega))
            go_wp2
            go_roundg g
            case measure => omega
            case rel => exact ⟨i + 1, _, by omega, by first | rfl | (congr 1; omega), rfl, Lib.hid (by rw [← HN.out]; exact HO2.out), hb⟩
          | succ g2 =>
            have hk9 : (K : Int) < 9 := by omega
            obtain ⟨d, hd⟩ : ∃ d : Nat, V % 10 = d := ⟨_, rfl⟩
            have hd10 : d < 10 := by omega
            have hdi : (V : Int) % 10 = (d : Int) := by omega
            have hcv := run_byte wr d hd10
            obtain ⟨C, hC⟩ : ∃ C : ByteArray, (⟨#[UInt8.ofNat (48 + d)]⟩ : ByteArray) = C := ⟨_, rfl⟩
            rw [hC] at hcv
            have hCs : (C.size : Int) ≤ 8388608 := by rw [← hC]; show ((1 : Nat) : Int) ≤ _; omega
            have HCC := Lib.hid hC
            clear hC
            have hbs := hb.size
            have HS := Lib.hid (partI_step HP.out (by omega) (by intro hf; first | exact absurd hf (by decide) | omega))
            have HD := Lib.hid hd
            clear hd
            go_wp2
            go_roundg g2
            case measure => omega
            case rel => exact ⟨K + 1, V / 10, _, by omega, by first | rfl | (congr 1; omega), rfl, by first | rfl | (congr 1; omega), by omega, Lib.hid (by have h := HS.out; rw [HD.out] at h; rw [← HCC.out]; simpa using h), hb.alloc hbs _⟩
      · have hli : ¬ (i : Int) < (n : Int) - 1 := by omega
        go_wp2
        go_loopg [5, 6, 7] 9 (fun g2 a c k wy => ∃ (K V : Nat) (P : ByteArray), K + g2 = 9 ∧ k = .int .i64 K ∧ a = .string P ∧ c = .int .u32 V ∧ V < 1000000000 ∧ Hid (PartI x K true P.data.toList V) ∧ Below w.heap.size w wy)
        case atStart => exact ⟨0, x, _, by omega, rfl, rfl, rfl, hx9, Lib.hid (partI_zero x true), hb⟩
        case round =>
          obtain ⟨K, V, P, hK, rfl, rfl, rfl, hV, HP, hb⟩ := hrel
          have hPs : (P.size : Int) ≤ 8388608 := by
            have h1 := size_data P
            rw [HP.out.part, pad_length] at h1
            omega
          cases gk with
          | zero =>
            have hk9 : ¬ (K : Int) < 9 := by omega
            have HO2 := Lib.hid (say_append (s := P) rfl HO.out)
            have HN := Lib.hid (show P.data.toList ++ outT l i = outT l (i + 1) from out_last HC.out.2.1 (by rw [HC.out.2.2]; omega) (HX.out.symm ▸ HP.out) (by omega))
            go_wp2
            go_roundg g
            case measure => omega
            case rel => exact ⟨i + 1, _, by omega, by first | rfl | (congr 1; omega), rfl, Lib.hid (by rw [← HN.out]; exact HO2.out), hb⟩
          | succ g2 =>
            have hk9 : (K : Int) < 9 := by omega
            by_cases hv0 : 0 < V
            · have hvi : 0 < (V : Int) := by omega
              obtain ⟨d, hd⟩ : ∃ d : Nat, V % 10 = d := ⟨_, rfl⟩
              have hd10 : d < 10 := by omega
              have hdi : (V : Int) % 10 = (d : Int) := by omega
              have hcv := run_byte wr d hd10
              obtain ⟨C, hC⟩ : ∃ C : ByteArray, (⟨#[UInt8.ofNat (48 + d)]⟩ : ByteArray) = C := ⟨_, rfl⟩
              rw [hC] at hcv
              have hCs : (C.size : Int) ≤ 8388608 := by rw [← hC]; show ((1 : Nat) : Int) ≤ _; omega
              have HCC := Lib.hid hC
              clear hC
              have hbs := hb.size
              have HS := Lib.hid (partI_step HP.out (by omega) (by intro hf; first | exact absurd hf (by decide) | omega))
              have HD := Lib.hid hd
              clear hd
              go_wp2
              go_roundg g2
              case measure => omega
              case rel => exact ⟨K + 1, V / 10, _, by omega, by first | rfl | (congr 1; omega), rfl, by first | rfl | (congr 1; omega), by omega, Lib.hid (by have h := HS.out; rw [HD.out] at h; rw [← HCC.out]; simpa using h), hb.alloc hbs _⟩
            · have hvi : ¬ 0 < (V : Int) := by omega
              have HO2 := Lib.hid (say_append (s := P) rfl HO.out)
              have HN := Lib.hid (show P.data.toList ++ outT l i = outT l (i + 1) from out_last HC.out.2.1 (by rw [HC.out.2.2]; omega) (HX.out.symm ▸ HP.out) (by omega))
              go_wp2
              go_roundg g
              case measure => omega
              case rel => exact ⟨i + 1, _, by omega, by first | rfl | (congr 1; omega), rfl, Lib.hid (by rw [← HN.out]; exact HO2.out), hb⟩
end Go.Proofs.YtafhepbplffmeaaDoor

/-
  The walk of the reference's Format. Condition: the number is one that can be read.
-/
namespace Go.Proofs.YtafhepbplffmeaaDoor
open Go.RowKit Num
open Go.Lib (decDigits)

set_option maxRecDepth 20000 in
theorem natText_none (w : World) (xa : Option Addr) (xcap : Nat) : Calls Tryd.prog 20 #[.slice xa 0 xcap] w (StrP (decDigits 0) w) := by
  rw [dec_zero]
  go_enter Tryd.func20, Tryd.ntmps20
  go_wp2
  go_loopg [3, 4] 0 (fun g s x wr => x = .int .i64 0 ∧ s = .string ⟨#[]⟩ ∧ w = wr)
  case atStart => exact ⟨rfl, rfl, rfl⟩
  case round =>
    obtain ⟨rfl, rfl, rfl⟩ := hrel
    go_wp2
    go_ret
    exact ⟨rfl, Below.refl _ _⟩

theorem natText_any {w : World} {xv : Value} {x : Nat} (hx : Nt w xv x) (hk : x < pw 1000) : Calls Tryd.prog 20 #[xv] w (StrP (decDigits x) w) := by
  obtain ⟨l, h1, h2, rfl⟩ := hx
  have hlen := cano_len h2 hk
  have h1' := h1
  obtain ⟨a, cap, rfl, -⟩ := h1
  rcases Nat.eq_zero_or_pos l.length with h | h
  · obtain rfl := List.eq_nil_of_length_eq_zero h
    exact natText_none w a cap
  · exact natText_some w a l.length cap l h1' rfl h h2 hlen

/-- A string that a call gave, by its bytes. -/
theorem dec_say {x k : Nat} (h : x < pw k) (hk : 0 < k) (hk2 : k ≤ 1000) : ∃ S : ByteArray, (⟨(decDigits x).toArray⟩ : ByteArray) = S ∧ Say S (decDigits x) ∧ (S.size : Int) ≤ 100000 := by
  refine ⟨_, rfl, rfl, ?_⟩
  rw [pw_ten] at h
  have := dec_length_le _ _ h (by omega)
  show ((decDigits x).length : Int) ≤ _
  omega

set_option maxHeartbeats 4000000 in
set_option maxRecDepth 20000 in
theorem refFormat_any (neg : Bool) (an ad : Option Addr) (n1 c1 n2 c2 k : Nat) (q : Rat) (w : World) (hq : RatV w neg an n1 c1 ad n2 c2 k q) (hk : k ≤ 900) :
    Calls Tryd.prog 8 #[.agg #[.bool neg, .slice an n1 c1, .slice ad n2 c2]] w (StrP (qtxt q) w) := by
  have hbw := below_alloc1 w (.cells #[.bool neg, .slice an n1 c1, .slice ad n2 c2] 24)
  have hb1 := BoxV.new w w.heap.size 24 (Nat.le_refl _) [.bool neg, .slice an n1 c1, .slice ad n2 c2]
  have hc := refCanonical_a (hq.below hbw).a (by omega)
  have hsz := hq.sz
  have HA := Lib.hid (And.intro hc (And.intro hbw (And.intro hb1 hsz)))
  clear hq hc hbw hb1 hsz
  go_enter Tryd.func8, Tryd.ntmps8
  go_wp2_with fail
  refine HA.out.1.mono ?_
  rintro e w3 ⟨v, rfl, hv, hb3⟩
  have hB3 := HA.out.2.2.1.below hb3
  have hbb := below_next' HA.out.2.1 hb3
  have hv' := hv
  obtain ⟨yn, yl, yc, dn, dl, dc, rfl, hn, hd⟩ := hv
  obtain ⟨s, hs⟩ : ∃ s, decide (q.num < 0) = s := ⟨_, rfl⟩
  rw [hs] at hv' ⊢
  have hB5 := hB3.store3 (.bool s) (.slice yn yl yc) (.slice dn dl dc)
  have hv5 := hv'.other hB3 (noLimb_rat _ _ _ _ _ _ _) (grown_set3 w3 w.heap.size (.bool s) (.slice yn yl yc) (.slice dn dl dc))
  have hn5 := hn.other hB3 (noLimb_rat _ _ _ _ _ _ _) (grown_set3 w3 w.heap.size (.bool s) (.slice yn yl yc) (.slice dn dl dc))
  have hd5 := hd.other hB3 (noLimb_rat _ _ _ _ _ _ _) (grown_set3 w3 w.heap.size (.bool s) (.slice yn yl yc) (.slice dn dl dc))
  have hb5 := below_set3 hbb hB3.block.1 (.bool s) (.slice yn yl yc) (.slice dn dl dc)
  obtain ⟨⟨y0, y1, y2⟩, i0, i1, i2⟩ := hB3.three
  have hs1 := natText_any hn5 (Nat.lt_of_lt_of_le HA.out.2.2.2.1 (pw_le (by omega)))
  have H5 := Lib.hid (And.intro hs1 (And.intro hB5 (And.intro hv5 (And.intro hd5 (And.intro hb5 hs)))))
  clear hv' hn hd hB3 hbb hb3 hv5 hn5 hd5 hb5 hB5 hs1 hs
  go_wp2_with fail
  refine H5.out.1.mono ?_
  rintro e w6 ⟨rfl, hb6⟩
  obtain ⟨S1, hS1, hsay1, hsz1⟩ := dec_say HA.out.2.2.2.1 (by omega) (by omega)
  rw [hS1]
  obtain ⟨⟨k0, k1, k2⟩, _⟩ := (H5.out.2.1.below hb6).three
  have hv6 := H5.out.2.2.1.below hb6
  have hd6 := H5.out.2.2.2.1.below hb6
  have hbw6 := below_next' H5.out.2.2.2.2.1 hb6
  have hint := refIntegral_a (hv6.a HA.out.2.2.2) (by omega)
  have H6 := Lib.hid (And.intro hint (And.intro hd6 (And.intro hbw6 (And.intro hsay1 (H5.out.2.1.below hb6)))))
  clear hS1 hsay1 hb6 hv6 hd6 hbw6 hint
  cases s
  · have H0 := Lib.hid (of_decide_eq_false H5.out.2.2.2.2.2)
    have HS := Lib.hid (show Say S1 ([] ++ decDigits q.num.natAbs) from H6.out.2.2.2.1)
    have HZ1 := Lib.hid (show (S1.size : Int) ≤ 200000 by omega)
    go_wp2_with fail
    refine H6.out.1.mono ?_
    rintro e w7 ⟨rfl, hb7⟩
    have hbw7 := below_next' H6.out.2.2.1 hb7
    by_cases h1 : q.den = 1
    · rw [decide_eq_true h1]
      have HQ := Lib.hid (show S1 = ⟨(qtxt q).toArray⟩ from say_mk (by have h := HS.out; rw [qtxt, if_neg (by have := H0.out; omega), tailT, if_pos h1, List.append_nil]; exact h))
      clear h1
      go_wp2
      go_ret
      exact ⟨by rw [← HQ.out]; rfl, hbw7⟩
    · rw [decide_eq_false h1]
      obtain ⟨⟨m0, m1, m2⟩, _⟩ := (H6.out.2.2.2.2.below hb7).three
      have hs2 := natText_any (H6.out.2.1.below hb7) (Nat.lt_of_lt_of_le HA.out.2.2.2.2 (pw_le (by omega)))
      have HN := Lib.hid (And.intro hs2 (And.intro hbw7 h1))
      clear hs2 hbw7 h1 hb7
      go_wp2_with fail
      refine HN.out.1.mono ?_
      rintro e w8 ⟨rfl, hb8⟩
      have hbw8 := below_next' HN.out.2.1 hb8
      obtain ⟨S2, hS2, hsay2, hsz2⟩ := dec_say HA.out.2.2.2.2 (by omega) (by omega)
      rw [hS2]
      have h47 : Say (⟨#[47]⟩ : ByteArray) [47] := rfl
      have HQ := Lib.hid (show S1 ++ ((⟨#[47]⟩ : ByteArray) ++ S2) = ⟨(qtxt q).toArray⟩ from say_mk (by have h := say_append HS.out (say_append h47 hsay2); rw [qtxt, if_neg (by have := H0.out; omega), tailT, if_neg HN.out.2.2]; simpa using h))
      have hsz3 : ((((⟨#[47]⟩ : ByteArray) ++ S2).size : Nat) : Int) ≤ 8388608 := by
        rw [say_size (say_append h47 hsay2), List.length_append, ← say_size hsay2, List.length_singleton]; omega
      have hszm : (S2.size : Int) ≤ 8388608 := by omega
      have hszn : ((S1).size : Int) ≤ 8388608 := by have := HZ1.out; omega
      clear hS2 hsay2 hb8 h47
      go_wp2
      go_ret
      exact ⟨by rw [← HQ.out]; rfl, hbw8⟩
  · have H0 := Lib.hid (of_decide_eq_true H5.out.2.2.2.2.2)
    have h45 : Say (⟨#[45]⟩ : ByteArray) [45] := rfl
    have HS := Lib.hid (show Say ((⟨#[45]⟩ : ByteArray) ++ S1) ([45] ++ decDigits q.num.natAbs) from say_append h45 H6.out.2.2.2.1)
    have HZ1 := Lib.hid (show ((((⟨#[45]⟩ : ByteArray) ++ S1).size : Nat) : Int) ≤ 200000 by rw [say_size HS.out, List.length_append, ← say_size H6.out.2.2.2.1, List.length_singleton]; omega)
    have hszm1 : (S1.size : Int) ≤ 8388608 := by omega
    clear h45
    go_wp2_with fail
    refine H6.out.1.mono ?_
    rintro e w7 ⟨rfl, hb7⟩
    have hbw7 := below_next' H6.out.2.2.1 hb7
    by_cases h1 : q.den = 1
    · rw [decide_eq_true h1]
      have HQ := Lib.hid (show ((⟨#[45]⟩ : ByteArray) ++ S1) = ⟨(qtxt q).toArray⟩ from say_mk (by have h := HS.out; rw [qtxt, if_pos (by have := H0.out; omega), tailT, if_pos h1, List.append_nil]; exact h))
      clear h1
      go_wp2
      go_ret
      exact ⟨by rw [← HQ.out]; rfl, hbw7⟩
    · rw [decide_eq_false h1]
      obtain ⟨⟨m0, m1, m2⟩, _⟩ := (H6.out.2.2.2.2.below hb7).three
      have hs2 := natText_any (H6.out.2.1.below hb7) (Nat.lt_of_lt_of_le HA.out.2.2.2.2 (pw_le (by omega)))
      have HN := Lib.hid (And.intro hs2 (And.intro hbw7 h1))
      clear hs2 hbw7 h1 hb7
      go_wp2_with fail
      refine HN.out.1.mono ?_
      rintro e w8 ⟨rfl, hb8⟩
      have hbw8 := below_next' HN.out.2.1 hb8
      obtain ⟨S2, hS2, hsay2, hsz2⟩ := dec_say HA.out.2.2.2.2 (by omega) (by omega)
      rw [hS2]
      have h47 : Say (⟨#[47]⟩ : ByteArray) [47] := rfl
      have HQ := Lib.hid (show ((⟨#[45]⟩ : ByteArray) ++ S1) ++ ((⟨#[47]⟩ : ByteArray) ++ S2) = ⟨(qtxt q).toArray⟩ from say_mk (by have h := say_append HS.out (say_append h47 hsay2); rw [qtxt, if_pos (by have := H0.out; omega), tailT, if_neg HN.out.2.2]; simpa using h))
      have hsz3 : ((((⟨#[47]⟩ : ByteArray) ++ S2).size : Nat) : Int) ≤ 8388608 := by
        rw [say_size (say_append h47 hsay2), List.length_append, ← say_size hsay2, List.length_singleton]; omega
      have hszm : (S2.size : Int) ≤ 8388608 := by omega
      have hszn : ((((⟨#[45]⟩ : ByteArray) ++ S1)).size : Int) ≤ 8388608 := by have := HZ1.out; omega
      clear hS2 hsay2 hb8 h47
      go_wp2
      go_ret
      exact ⟨by rw [← HQ.out]; rfl, hbw8⟩
end Go.Proofs.YtafhepbplffmeaaDoor

/-
  The walks of the laws RationalFormats and RationalBack. Condition: the table of powers of ten reads as it is laid.
-/
namespace Go.Proofs.YtafhepbplffmeaaDoor
open Go.RowKit Num

/-! What is known of a slot, and of the table. -/
def TabF (B : Nat) (w : World) : Prop := TabP B w ∧ B ≤ w.heap.size
theorem TabF.below {B : Nat} {w w' : World} (h : TabF B w) (hb : Below w.heap.size w w') : TabF B w' := ⟨h.1.up (hb.mono h.2) (Nat.le_refl _), Nat.le_trans h.2 hb.size⟩
theorem TabF.here {B : Nat} {w : World} (h : TabF B w) : TabP w.heap.size w := h.1.up (Below.refl _ _) h.2

section
variable {κ : Tmp → Kd} {G : Nat → Option Tmp} {d t u c : Tmp} {ty : TypeId} {pos : String} {es : Array Edge} {g : Option (Nat × Bool)} {B : Nat}
def Ft (B : Nat) (κ : Tmp → Kd) : Tmp → World → Value → Prop := fun t w v => (κ t).holds w v ∧ TabF B w
theorem Ft.below {t : Tmp} {w w' : World} {v : Value} (hb : Below w.heap.size w w') (h : Ft B κ t w v) : Ft B κ t w' v := ⟨Kd.below hb h.1, h.2.below hb⟩
theorem Ft.draw (t : Tmp) (W : World) (v : Value) (h : Ft B κ t W v) : Ft B κ t { W with drawn := W.drawn + 1 } v := h.below (Below.refl _ _).drew

theorem ft_lift {o : Oper} (h : FlowStep Tryd.prog (Fk κ) G o) (hm : ∃ t, .tmp t ∈ o.op.operands.toList ∨ ∃ g, o.guard = some g ∧ G g.1 = some t) : FlowStep Tryd.prog (Ft B κ) G o := by
  intro a w Q hf
  obtain ⟨t, ht⟩ := hm
  have hT := (hf t ht).2
  obtain ⟨h1, h2⟩ := h a w Q fun t ht => (hf t ht).1
  refine ⟨fun hw => Oper.wp_mono ?_ (h1 hw), fun hw d hd => ⟨h2 hw d hd, hT⟩⟩
  rintro a' w' ⟨v, rfl, hb, hd⟩
  exact ⟨v, rfl, hb, fun d' hd' => ⟨hd d' hd', hT.below hb⟩⟩
theorem ft_guard {gd : Option (Nat × Bool)} (h : GuardYes (Fk κ) G gd) : GuardYes (Ft B κ) G gd := by
  unfold GuardYes at *
  split
  · trivial
  · obtain ⟨d, hd, hv⟩ := h
    exact ⟨d, hd, fun w v hf => hv w v hf.1⟩

theorem c1_7 (a : Act) (d : Option Tmp) (ty : TypeId) (pos : String) (es : Array Edge) (g : Option (Nat × Bool)) (t : Tmp) (w : World) :
    Sem.run Tryd.prog (execOp a.eval ⟨d, .call ⟨.value (.func 7), #[.tmp t], #[24]⟩, ty, pos, es, g⟩) w = .ok (.enter 7 #[a.tmps.getD t undef]) w := by go_simp
theorem c1_8 (a : Act) (d : Option Tmp) (ty : TypeId) (pos : String) (es : Array Edge) (g : Option (Nat × Bool)) (t : Tmp) (w : World) :
    Sem.run Tryd.prog (execOp a.eval ⟨d, .call ⟨.value (.func 8), #[.tmp t], #[24]⟩, ty, pos, es, g⟩) w = .ok (.enter 8 #[a.tmps.getD t undef]) w := by go_simp

theorem format_a {w : World} {x : Value} {k : Nat} {q : Rat} (hx : RatA w x k q) (hk : k ≤ 900) (ht : TabP w.heap.size w) : Calls Tryd.prog 7 #[x] w (StrP (qtxt q) w) := by
  obtain ⟨neg, an, n, cn, ad, m, cd, rfl, hv⟩ := hx.v
  exact format_any _ _ _ _ _ _ _ _ _ w hv hk ht
theorem refFormat_a {w : World} {x : Value} {k : Nat} {q : Rat} (hx : RatA w x k q) (hk : k ≤ 900) : Calls Tryd.prog 8 #[x] w (StrP (qtxt q) w) := by
  obtain ⟨neg, an, n, cn, ad, m, cd, rfl, hv⟩ := hx.v
  exact refFormat_any _ _ _ _ _ _ _ _ _ w hv hk

theorem ft_format {k : Nat} {q : Rat} (hg : GuardYes (Fk κ) G g) (ht : (κ t).isRat k q) (hd : κ d = .val (.string ⟨(qtxt q).toArray⟩)) (hk : k ≤ 900) :
    FlowStep Tryd.prog (Ft B κ) G ⟨some d, .call ⟨.value (.func 7), #[.tmp t], #[24]⟩, ty, pos, es, g⟩ := by
  refine step_yes (ft_guard hg) fun a w Q hf => ?_
  have h := hf t (by simp [Op.operands, Call.operands])
  unfold Oper.wp
  rw [c1_7, Oper.upon_enter]
  refine (format_a (ht.a h.1 (Nat.le_refl _)) hk h.2.here).mono ?_
  rintro e w' ⟨rfl, hb⟩
  exact ⟨_, rfl, hb, fun d' hd' => by cases hd'; exact ⟨by rw [hd]; rfl, h.2.below hb⟩⟩
theorem fl_refFormat {k : Nat} {q : Rat} (hg : GuardYes (Fk κ) G g) (ht : (κ t).isRat k q) (hd : κ d = .val (.string ⟨(qtxt q).toArray⟩)) (hk : k ≤ 900) :
    FlowStep Tryd.prog (Fk κ) G ⟨some d, .call ⟨.value (.func 8), #[.tmp t], #[24]⟩, ty, pos, es, g⟩ :=
  fl_call1 (fun a w => c1_8 a _ _ _ _ _ _ w) hg fun w x hx => (refFormat_a (ht.a hx (Nat.le_refl _)) hk).mono fun e w' ⟨he, hb⟩ => ⟨_, he, by rw [hd]; rfl, hb⟩
theorem fl_seq {s : ByteArray} (hg : GuardYes (Fk κ) G g) (ht : κ t = .val (.string s)) (hu : κ u = .val (.string s)) (hd : κ d = .val (.bool true)) :
    FlowStep Tryd.prog (Fk κ) G ⟨some d, .binOp .eql 9 (.tmp t) (.tmp u) 9, ty, pos, es, g⟩ :=
  fl_bi hg (by simp [Op.operands]) (by simp [Op.operands]) ht hu hd fun a w h h' => by go_simp
end

def formatsL (x : Rat) : Tmp → Kd := fun t => ([.any, .box 9 x, .val (.bool true), .any, .any, .any, .rat 9 x, .val (.string ⟨(qtxt x).toArray⟩), .rat 9 x, .val (.string ⟨(qtxt x).toArray⟩), .val (.bool true), .val (.bool true), .val (.bool true), .val (.bool true)] : List Kd).getD t .any

set_option maxRecDepth 100000 in
set_option maxHeartbeats 4000000 in
theorem formats_go {na : Bool} {an ad : Option Addr} {n1 s1 n2 s2 k1 : Nat} {x : Rat} (w : World) (hx : RatV w na an n1 s1 ad n2 s2 k1 x) (htab : TabP w.heap.size w) :
    Calls Tryd.prog 3 #[.agg #[.bool na, .slice an n1 s1, .slice ad n2 s2]] w (TrueP w) := by
  have HA := Lib.hid hx
  have HTab := Lib.hid htab
  clear hx htab
  go_enter Tryd.func3, Tryd.ntmps3
  go_wp2_with fail
  have hb0 := BoxV.new w w.heap.size 24 (Nat.le_refl _) [.bool na, .slice an n1 s1, .slice ad n2 s2]
  have HX := Lib.hid (And.intro hb0 (below_alloc1 w (.cells #[.bool na, .slice an n1 s1, .slice ad n2 s2] 24)))
  clear hb0
  refine (keepRat_any _ _ _ _ _ _ _ _).mono ?_
  rintro e w1 ⟨rfl, hw1⟩
  have H1 := Lib.hid hw1
  clear hw1
  by_cases hf : n1 ≤ 8 ∧ n2 ≤ 8
  · rw [decide_eq_true hf]
    have F1 := Lib.hid hf
    clear hf
    go_wp2_with fail
    have hbw := below_next' HX.out.2 H1.out
    have hk := box_of (HX.out.1.below H1.out) ((HA.out.le F1.out.1 F1.out.2).below hbw)
    have HK := Lib.hid (And.intro hbw (And.intro hk (TabF.below ⟨HTab.out, Nat.le_refl _⟩ hbw)))
    clear hbw hk
    refine region_flow (Ft w.heap.size (formatsL x)) (by rfl) (fun t w w' v hb h => Ft.below hb h) 14 (by rfl) (by kernel_rfl) (by kernel_rfl) [1] (by kernel_rfl) ?h0 (fun t v h => Ft.draw _ _ _ h) ?steps ?fin
    case h0 =>
      intro t ht
      simp only [List.mem_cons, List.not_mem_nil, or_false] at ht
      subst ht
      exact HK.out.2
    case steps =>
      exact ⟨ft_lift (fl_load guard_none rfl rfl) ⟨1, .inl (by simp [Op.operands])⟩,
        ft_format guard_none (.inl rfl) rfl (by omega),
        ft_lift (fl_load guard_none rfl rfl) ⟨1, .inl (by simp [Op.operands])⟩,
        ft_lift (fl_refFormat guard_none (.inl rfl) rfl (by omega)) ⟨8, .inl (by simp [Op.operands, Call.operands])⟩,
        ft_lift (fl_seq guard_none rfl rfl rfl) ⟨7, .inl (by simp [Op.operands])⟩,
        ft_lift (fl_move guard_none rfl) ⟨10, .inl (by simp [Op.operands])⟩,
        ft_lift (fl_awake (guard_true (s := 11) rfl rfl) rfl) ⟨11, .inr ⟨_, rfl, rfl⟩⟩,
        ft_lift (fl_and guard_none rfl rfl) ⟨11, .inl (by simp [Op.operands])⟩,
        ft_lift (fl_assign guard_none rfl) ⟨13, .inl (by simp [Op.operands])⟩,
        trivial⟩
    case fin =>
      intro A7 w11 hb11 _ hdf7 hfacts7 _
      have e6 : A7.tmps[2]?.getD undef = .bool true := by rw [← Array.getD_eq_getD_getElem?]; exact (hfacts7 8 2 rfl).1
      have hdd : A7.defers = [] := by rw [hdf7]
      have HR := Lib.hid (below_next' HK.out.1 hb11)
      clear hfacts7 hdf7 hb11
      go_wp2_with fail
      refine bodyPost_ret (v := .bool true) (by simp [results, Tryd.results3, go_sem, e6]) hdd ⟨rfl, HR.out⟩
  · rw [decide_eq_false hf]
    go_wp2
    go_ret
    exact ⟨rfl, below_next' HX.out.2 H1.out⟩

end Go.Proofs.YtafhepbplffmeaaDoor

/-
  The walk of the law RationalBack. Condition: the table of powers of ten reads as it is laid.
-/
namespace Go.Proofs.YtafhepbplffmeaaDoor
open Go.RowKit Num

def backL (x : Rat) : Tmp → Kd := fun t => ([.any, .box 9 x, .val (.bool true), .boxC 9 x, .val (.bool true), .any, .any, .any, .any, .any, .any, .any, .any, .any, .val (.bool true), .val (.bool true), .ratC 9 x, .rat 9 x, .ratC 9 x, .val (.bool true), .val (.bool true), .val (.bool true), .val (.bool true), .val (.bool true)] : List Kd).getD t .any

theorem parse_text {x : Rat} (hs : Sz x 9) (w : World) : Calls Tryd.prog 10 #[.string ⟨(qtxt x).toArray⟩] w (ParseP (some x) w) := by
  have h1 : x.num.natAbs < 10 ^ 200 := Nat.lt_of_lt_of_le hs.1 (by rw [pw_ten]; exact Nat.pow_le_pow_right (by omega) (by omega))
  have h2 : x.den < 10 ^ 200 := Nat.lt_of_lt_of_le hs.2 (by rw [pw_ten]; exact Nat.pow_le_pow_right (by omega) (by omega))
  have h3 := qtxt_length hs.1 hs.2 (by omega)
  have h := parse_any ⟨(qtxt x).toArray⟩ w (by show (qtxt x).length ≤ 500; omega)
  have e : parseR (ByteArray.mk (qtxt x).toArray).data.toList = some x := parse_back h1 h2
  rw [e] at h
  exact h

set_option maxRecDepth 100000 in
set_option maxHeartbeats 4000000 in
theorem back_go {na : Bool} {an ad : Option Addr} {n1 s1 n2 s2 k1 : Nat} {x : Rat} (w : World) (hx : RatV w na an n1 s1 ad n2 s2 k1 x) (htab : TabP w.heap.size w) :
    Calls Tryd.prog 4 #[.agg #[.bool na, .slice an n1 s1, .slice ad n2 s2]] w (TrueP w) := by
  have HA := Lib.hid hx
  have HTab := Lib.hid htab
  clear hx htab
  go_enter Tryd.func4, Tryd.ntmps4
  go_wp2_with fail
  have hb0 := BoxV.new w w.heap.size 24 (Nat.le_refl _) [.bool na, .slice an n1 s1, .slice ad n2 s2]
  have HX := Lib.hid (And.intro hb0 (below_alloc1 w (.cells #[.bool na, .slice an n1 s1, .slice ad n2 s2] 24)))
  clear hb0
  refine (keepRat_any _ _ _ _ _ _ _ _).mono ?_
  rintro e w1 ⟨rfl, hw1⟩
  have H1 := Lib.hid hw1
  clear hw1
  by_cases hf : n1 ≤ 8 ∧ n2 ≤ 8
  · rw [decide_eq_true hf]
    have F1 := Lib.hid hf
    clear hf
    have hbw := below_next' HX.out.2 H1.out
    have hv := (HA.out.le F1.out.1 F1.out.2).below hbw
    have hsz := hv.sz
    obtain ⟨⟨k0, k1, k2⟩, _⟩ := (HX.out.1.below H1.out).three
    have hk := box_of (HX.out.1.below H1.out) hv
    have hfo := format_any _ _ _ _ _ _ _ _ _ w1 hv (by omega) ((TabF.below ⟨HTab.out, Nat.le_refl _⟩ hbw).here)
    have HK := Lib.hid (And.intro hbw (And.intro hk (And.intro hfo hsz)))
    clear hbw hk hfo hv hsz
    go_wp2_with fail
    refine HK.out.2.2.1.mono ?_
    rintro e w2 ⟨rfl, hb2⟩
    have H2 := Lib.hid hb2
    clear hb2
    have hpa := Lib.hid (parse_text HK.out.2.2.2 w2)
    go_wp2_with fail
    refine hpa.out.mono ?_
    rintro e w3 ⟨⟨v3, rfl, hc3⟩, hb3⟩
    have hc3' := hc3
    obtain ⟨xn, ln, cn, xd, ld, cd, rfl, -, -⟩ := hc3
    have hbx := BoxV.new w3 w3.heap.size 24 (Nat.le_refl _) [.bool (decide (x.num < 0)), .slice xn ln cn, .slice xd ld cd]
    have hb4 := below_alloc1 w3 (.cells #[.bool (decide (x.num < 0)), .slice xn ln cn, .slice xd ld cd] 24)
    have hkc := boxC_of hbx (hc3'.below hb4) HK.out.2.2.2
    have hb14 := below_next' (below_next' H2.out hb3) hb4
    have hkb : (Kd.box 9 x).holds (w3.alloc (.cells #[.bool (decide (x.num < 0)), .slice xn ln cn, .slice xd ld cd] 24)) (.pointer (some ⟨w.heap.size, 0, none⟩)) := Kd.below hb14 HK.out.2.1
    have H4 := Lib.hid (And.intro (below_next' HK.out.1 hb14) (And.intro hkc hkb))
    clear hc3' hbx hb4 hkc hb14 hkb hb3 k0 k1 k2
    go_wp2_with fail
    refine region_flow (Fk (backL x)) (by rfl) (fun t w w' v hb h => Kd.below hb h) 24 (by rfl) (by kernel_rfl) (by kernel_rfl) [1, 3, 4] (by kernel_rfl) ?h0 (fun t v h => Kd.draw _ _ _ h) ?steps ?fin
    case h0 =>
      intro t ht
      simp only [List.mem_cons, List.not_mem_nil, or_false] at ht
      rcases ht with rfl | rfl | rfl
      · exact H4.out.2.2
      · exact H4.out.2.1
      · rfl
    case steps =>
      exact ⟨fl_move guard_none rfl,
        fl_move guard_none rfl,
        fl_loadC (guard_true (s := 15) rfl rfl) rfl rfl,
        fl_load (guard_true (s := 15) rfl rfl) rfl rfl,
        fl_canon (guard_true (s := 15) rfl rfl) (.inl rfl) rfl (by omega),
        fl_same (guard_true (s := 15) rfl rfl) rfl rfl rfl (same_iff rfl) (by omega),
        fl_and guard_none rfl rfl,
        fl_move guard_none rfl,
        fl_awake (guard_true (s := 21) rfl rfl) rfl,
        fl_and guard_none rfl rfl,
        fl_assign guard_none rfl,
        trivial⟩
    case fin =>
      intro A7 w11 hb11 _ hdf7 hfacts7 _
      have e6 : A7.tmps[2]?.getD undef = .bool true := by rw [← Array.getD_eq_getD_getElem?]; exact hfacts7 10 2 rfl
      have hdd : A7.defers = [] := by rw [hdf7]
      have HR := Lib.hid (below_next' H4.out.1 hb11)
      clear hfacts7 hdf7 hb11
      go_wp2_with fail
      refine bodyPost_ret (v := .bool true) (by simp [results, Tryd.results4, go_sem, e6]) hdd ⟨rfl, HR.out⟩
  · rw [decide_eq_false hf]
    go_wp2
    go_ret
    exact ⟨rfl, below_next' HX.out.2 H1.out⟩

end Go.Proofs.YtafhepbplffmeaaDoor
