/-
  The walks of CutPrefix at a minus, of Cut at a slash, and of Parse. Conditions: as each says.
-/
import Derived.Test.YtdpiclmjdcjajaaP3
import Derived.Lib.Bytealg
import Derived.Lib.Walk
import Derived.BigQuiet
import Derived.Deep.QuietTactic
import Derived.RegionTactic
import Derived.Test.YtdpiclmjdcjajaaR3
import Derived.Test.YtdpiclmjdcjajaaR6
namespace Go.Proofs.Ytdpiclmjdcjajaa
open Go.RowKit Num

/-- What a quiet function answers. -/
def Ans (w : World) (v : Value) (e : Ending) (w' : World) : Prop := e = .returned v ∧ w = w'
theorem str_mk {s : ByteArray} {l : List UInt8} (h : s.data.toList = l) : s = ⟨l.toArray⟩ := by subst h; rfl

def preB (p l : List UInt8) : Bool := p.isPrefixOf l
theorem hasPrefixIn_any (s t : ByteArray) (w : World) : Calls Try.prog 119 #[.string s, .string t] w (Ans w (.bool (preB t.data.toList s.data.toList))) := by
  by_cases hle : t.size ≤ s.size
  · obtain ⟨q, hq⟩ : ∃ q, ((s.extract 0 t.size).toList == t.toList) = q := ⟨_, rfl⟩
    have hp : preB t.data.toList s.data.toList = q := by
      unfold preB
      have h1 := Lib.hasPrefix_of_take s.data.toList t.data.toList
      unfold Lib.hasPrefix at h1
      rw [← h1, ← hq, Lib.toList_data, Lib.toList_data, Lib.extract_data, size_data, size_data, decide_eq_true hle]
      simp
    rw [hp]
    clear hp
    cases q
    all_goals
      go_enter Try.func119, Try.ntmps119
      go_wp2
      go_ret
      exact ⟨rfl, rfl⟩
  · have hp : preB t.data.toList s.data.toList = false := by
      unfold preB
      rw [← Bool.not_eq_true, List.isPrefixOf_iff_prefix]
      intro h
      have := h.length_le
      rw [size_data, size_data] at this
      omega
    rw [hp]
    go_enter Try.func119, Try.ntmps119
    go_wp2
    go_ret
    exact ⟨rfl, rfl⟩

/-- The text behind a minus. -/
def negB (l : List UInt8) : Bool := preB [45] l
def body (s : ByteArray) : ByteArray := if negB s.data.toList then s.extract 1 s.size else s

theorem cutPrefixIn_any (s : ByteArray) (w : World) : Calls Try.prog 91 #[.string s, .string ⟨#[45]⟩] w (Ans w (.tuple #[.string (body s), .bool (negB s.data.toList)])) := by
  have cp := fun w => hasPrefixIn_any s ⟨#[45]⟩ w
  obtain ⟨q, hq⟩ : ∃ q, negB s.data.toList = q := ⟨_, rfl⟩
  have hq2 : preB (ByteArray.mk #[45]).data.toList s.data.toList = q := hq
  rw [hq2] at cp
  unfold body
  rw [hq]
  cases q
  · clear hq hq2
    go_enter Try.func91, Try.ntmps91
    go_wp2_with (go_at_call 119; refine (cp _).mono ?_; rintro e w' ⟨rfl, rfl⟩)
    go_ret2
    exact ⟨rfl, rfl⟩
  · have hs : 1 ≤ s.size := by
      unfold preB at hq2
      rw [List.isPrefixOf_iff_prefix] at hq2
      have := hq2.length_le
      rw [size_data] at this
      exact this
    clear hq hq2
    go_enter Try.func91, Try.ntmps91
    go_wp2_with (go_at_call 119; refine (cp _).mono ?_; rintro e w' ⟨rfl, rfl⟩)
    go_ret2
    exact ⟨rfl, rfl⟩
theorem cutPrefix_any (s : ByteArray) (w : World) : Calls Try.prog 49 #[.string s, .string ⟨#[45]⟩] w (Ans w (.tuple #[.string (body s), .bool (negB s.data.toList)])) := by
  go_enter Try.func49, Try.ntmps49
  go_wp2_with (go_at_call 91; refine (cutPrefixIn_any s _).mono ?_; rintro e w' ⟨rfl, rfl⟩)
  go_ret2
  exact ⟨rfl, rfl⟩

set_option maxHeartbeats 1000000 in
set_option maxRecDepth 100000 in
theorem indexByte_any (s : ByteArray) (c : Int) (w : World) : Calls Try.prog 132 #[.string s, .int .u8 c] w (Ans w (.int .i64 (Lib.indexByte s.data.toList c.toNat.toUInt8))) := by
  go_enter Try.func132, Try.ntmps132
  go_wp2
  rw [run_callFunc_extern Try.func142 (by kernel_rfl) (by kernel_rfl) (by kernel_rfl) (e := Extern.BytealgIndexByte.indexByte) (by kernel_rfl), Lib.run_indexByteString]
  simp only [Result.andThen]
  rw [Oper.upon_value]
  go_wp2
  go_ret
  exact ⟨rfl, rfl⟩

/-- Where the slash is; -1 where there is none. -/
def slash (l : List UInt8) : Int := Lib.indexByte l 47
theorem index_any (s : ByteArray) (w : World) : Calls Try.prog 120 #[.string s, .string ⟨#[47]⟩] w (Ans w (.int .i64 (slash s.data.toList))) := by
  have ci := fun w => indexByte_any s 47 w
  obtain ⟨z, hz⟩ : ∃ z, slash s.data.toList = z := ⟨_, rfl⟩
  have hz2 : Lib.indexByte s.data.toList ((47 : Int).toNat.toUInt8) = z := hz
  rw [hz2] at ci
  rw [hz]
  have hself : ([47] == s.toList) = true → z = 0 := by
    intro h
    rw [Lib.toList_data] at h
    rw [← hz, ← eq_of_beq h]; rfl
  clear hz hz2
  obtain ⟨q, hq⟩ : ∃ q, ([47] == s.toList) = q := ⟨_, rfl⟩
  rw [hq] at hself
  cases q
  · clear hself
    go_enter Try.func120, Try.ntmps120
    go_wp2_with (go_at_call 132; refine (ci _).mono ?_; rintro e w' ⟨rfl, rfl⟩)
    go_ret
    exact ⟨rfl, rfl⟩
  · obtain rfl := hself rfl
    go_enter Try.func120, Try.ntmps120
    go_wp2
    go_ret
    exact ⟨rfl, rfl⟩

theorem index_tw : ∀ (l : List UInt8) (c : UInt8), (Lib.indexByte l c = -1 ∧ l.takeWhile (fun b => b != c) = l) ∨ (Lib.indexByte l c = (l.takeWhile (fun b => b != c)).length ∧ ∃ r, l.drop (l.takeWhile (fun b => b != c)).length = c :: r)
  | [], c => .inl ⟨rfl, rfl⟩
  | b :: l, c => by
    unfold Lib.indexByte
    by_cases h : b = c
    · subst h
      right
      rw [if_pos (by simp), List.takeWhile_cons_of_neg (by simp)]
      exact ⟨rfl, l, rfl⟩
    · rw [if_neg (by simpa using h), List.takeWhile_cons_of_pos (by simpa using h)]
      rcases index_tw l c with ⟨h1, h2⟩ | ⟨h1, r, h2⟩
      · left; rw [h1, h2]; exact ⟨rfl, rfl⟩
      · right
        rw [h1, if_neg (by rw [beq_iff_eq]; omega)]
        exact ⟨by simp, r, h2⟩

/-- The part before the slash, and what stands behind it. -/
def fore (l : List UInt8) : List UInt8 := l.takeWhile (fun b => b != 47)
def aft (l : List UInt8) : List UInt8 := l.drop ((fore l).length + 1)

set_option maxHeartbeats 1000000 in
theorem cutIn_any (s : ByteArray) (w : World) (hs : s.size ≤ 9223372036854775807) : Calls Try.prog 92 #[.string s, .string ⟨#[47]⟩] w fun e w' =>
    e = .returned (.tuple #[.string ⟨(fore s.data.toList).toArray⟩, .string ⟨(if 0 ≤ slash s.data.toList then aft s.data.toList else []).toArray⟩, .bool (decide (0 ≤ slash s.data.toList))]) ∧ Below w.heap.size w w' := by
  have ci := fun w => index_any s w
  rcases index_tw s.data.toList 47 with ⟨h1, h2⟩ | ⟨h1, r, h2⟩
  · have hz : slash s.data.toList = -1 := h1
    rw [hz] at ci ⊢
    have hf : fore s.data.toList = s.data.toList := h2
    rw [hf, if_neg (by omega), decide_eq_false (by omega), ← str_mk (s := s) rfl]
    clear h1 h2 hz hf
    go_enter Try.func92, Try.ntmps92
    go_wp2_with (go_at_call 120; refine (ci _).mono ?_; rintro e w' ⟨rfl, rfl⟩)
    go_ret3
    exact ⟨rfl, Below.refl _ _⟩
  · have hz : slash s.data.toList = ((fore s.data.toList).length : Int) := h1
    have hd : s.data.toList.drop (fore s.data.toList).length = 47 :: r := h2
    obtain ⟨k, hk⟩ : ∃ k, (fore s.data.toList).length = k := ⟨_, rfl⟩
    have hks : k < s.size := by
      rw [hk] at hd
      rw [← size_data]
      rcases Nat.lt_or_ge k s.data.toList.length with h | h
      · exact h
      · rw [List.drop_of_length_le h] at hd; cases hd
    have e1 : s.extract 0 k = ⟨(fore s.data.toList).toArray⟩ := str_mk (by
      rw [Lib.extract_data, List.drop_zero, Nat.sub_zero]
      unfold fore at hk ⊢
      rw [← hk]
      exact (List.prefix_iff_eq_take.1 (List.takeWhile_prefix _)).symm)
    have e2 : s.extract (k + 1) s.size = ⟨(aft s.data.toList).toArray⟩ := str_mk (by
      rw [Lib.extract_data, List.take_of_length_le (by rw [List.length_drop, size_data]; omega)]
      unfold aft
      rw [hk])
    rw [hz, hk] at ci ⊢
    rw [if_pos (by omega), decide_eq_true (by omega), ← e1, ← e2]
    clear h1 h2 hz hd hk e1 e2
    go_enter Try.func92, Try.ntmps92
    go_wp2_with (go_at_call 120; refine (ci _).mono ?_; rintro e w' ⟨rfl, rfl⟩)
    have y1 : IntKind.i64.wrap ((k : Int) + 1) = (k : Int) + 1 := IntWalk.i64_in _ (by omega)
    have y2 : 0 ≤ (k : Int) + 1 := by omega
    have y3 : ((k : Int) + 1).toNat = k + 1 := by omega
    have y4 : (k : Int) + 1 ≤ (s.size : Int) := by omega
    have y5 : (k : Int) ≤ (s.size : Int) := by omega
    go_quiet (fail)
    go_wp2
    go_ret3
    exact ⟨rfl, ⟨rfl, rfl, rfl, Nat.le_refl _, fun _ _ => rfl⟩⟩
theorem cut_any' (s : ByteArray) (w : World) (hs : s.size ≤ 9223372036854775807) : Calls Try.prog 50 #[.string s, .string ⟨#[47]⟩] w fun e w' =>
    e = .returned (.tuple #[.string ⟨(fore s.data.toList).toArray⟩, .string ⟨(if 0 ≤ slash s.data.toList then aft s.data.toList else []).toArray⟩, .bool (decide (0 ≤ slash s.data.toList))]) ∧ Below w.heap.size w w' := by
  have cc := fun w => cutIn_any s w hs
  obtain ⟨a, ha⟩ : ∃ a : ByteArray, (⟨(fore s.data.toList).toArray⟩ : ByteArray) = a := ⟨_, rfl⟩
  obtain ⟨b, hb⟩ : ∃ b : ByteArray, (⟨(if 0 ≤ slash s.data.toList then aft s.data.toList else []).toArray⟩ : ByteArray) = b := ⟨_, rfl⟩
  obtain ⟨q, hq⟩ : ∃ q, decide (0 ≤ slash s.data.toList) = q := ⟨_, rfl⟩
  rw [ha, hb, hq]
  simp only [ha, hb, hq] at cc
  clear ha hb hq
  go_enter Try.func50, Try.ntmps50
  go_wp2_with (go_at_call 92; refine (cc _).mono ?_; rintro e w' ⟨rfl, hb⟩)
  go_ret3
  exact ⟨rfl, by assumption⟩

end Go.Proofs.Ytdpiclmjdcjajaa

namespace Go.Proofs.Ytdpiclmjdcjajaa
open Go.RowKit Num

def ZRat : Value := .agg #[.bool false, .slice none 0 0, .slice none 0 0]
def ParseP (o : Option Rat) (w : World) (e : Ending) (w' : World) : Prop :=
  (match o with
    | none => e = .returned (.tuple #[.agg #[.bool false, .slice none 0 0, .slice none 0 0], .bool false])
    | some q => ∃ v, e = .returned (.tuple #[v, .bool true]) ∧ RatC w' v q) ∧ Below w.heap.size w w'

theorem pow_pw : (10 : Nat) ^ 200 ≤ pw 23 := by
  unfold pw
  rw [show (1000000000 : Nat) = 10 ^ 9 from rfl, ← Nat.pow_mul]
  exact Nat.pow_le_pow_right (by omega) (by omega)
theorem digs_lt {l : List UInt8} {x : Nat} (h : digs l = some x) : x < pw 23 := by
  unfold digs at h
  split at h
  · rename_i h1
    injection h with h
    rw [← h]
    exact Nat.lt_of_lt_of_le (dv_chunk h1.2.2 200 h1.2.1) pow_pw
  · cases h

theorem nt_len {w : World} {a : Option Addr} {n c x : Nat} (h : Nt w (.slice a n c) x) : n = 0 ↔ x = 0 := by
  obtain ⟨l, ⟨a', c', e, _⟩, c, hv⟩ := h
  simp only [Value.slice.injEq] at e
  rw [e.2.1, ← hv]; exact c.zero.symm

/-- The callees' answers, whatever the text. -/
structure ParseC (s b num den : ByteArray) (neg q : Bool) (o1 o2 : Option Nat) : Prop where
  cp : ∀ w, Calls Try.prog 49 #[.string s, .string ⟨#[45]⟩] w (Ans w (.tuple #[.string b, .bool neg]))
  cc : ∀ w, Calls Try.prog 50 #[.string b, .string ⟨#[47]⟩] w fun e w' => e = .returned (.tuple #[.string num, .string den, .bool q]) ∧ Below w.heap.size w w'
  p1 : ∀ w, Calls Try.prog 51 #[.string num] w (DigP o1 w)
  p2 : ∀ w, Calls Try.prog 51 #[.string den] w (DigP o2 w)

theorem DigP.none_ {w : World} {e : Ending} {w' : World} (h : DigP none w e w') : e = .returned (.tuple #[.slice none 0 0, .bool false]) ∧ Below w.heap.size w w' := h
theorem DigP.some_ {w : World} {e : Ending} {w' : World} {x : Nat} (h : DigP (some x) w e w') : ∃ a n c, e = .returned (.tuple #[.slice a n c, .bool true]) ∧ Nt w' (.slice a n c) x ∧ Below w.heap.size w w' := by
  obtain ⟨⟨v, he, hn⟩, hb⟩ := h
  obtain ⟨a, n, c, rfl⟩ := hn.shape
  exact ⟨a, n, c, he, hn, hb⟩

set_option maxHeartbeats 4000000 in
theorem parse_none {s b num den : ByteArray} {neg q : Bool} {o2 : Option Nat} (H : ParseC s b num den neg q none o2) (w : World) : Calls Try.prog 17 #[.string s] w (ParseP none w) := by
  have HH := Lib.hid H
  clear H
  go_enter Try.func17, Try.ntmps17
  go_wp2_with fail
  obtain ⟨W0, hW0⟩ : ∃ W0, w.alloc (.cells #[.bool false, .slice none 0 0, .slice none 0 0] 24) = W0 := ⟨_, rfl⟩
  have hbw : Below w.heap.size w W0 := by rw [← hW0]; exact below_alloc1 _ _
  have hB : BoxV W0 w.heap.size w.heap.size 24 [.bool false, .slice none 0 0, .slice none 0 0] := by rw [← hW0]; exact BoxV.new w w.heap.size 24 (Nat.le_refl _) [.bool false, .slice none 0 0, .slice none 0 0]
  rw [hW0]
  clear hW0
  have HX := Lib.hid (And.intro hbw hB)
  clear hbw hB
  refine (HH.out.cp _).mono ?_
  rintro e w1 ⟨rfl, rfl⟩
  go_wp2_with fail
  refine (HH.out.cc _).mono ?_
  rintro e w1 ⟨rfl, hb1⟩
  go_wp2_with fail
  refine (HH.out.p1 _).mono ?_
  intro e w2 h2
  obtain ⟨rfl, hb2⟩ := h2.none_
  have hbw := below_next' HX.out.1 (hb1.trans (hb2.mono hb1.size))
  have hB2 := (HX.out.2.below hb1).below hb2
  obtain ⟨⟨t0, t1, t2⟩, i0, i1, i2⟩ := hB2.three
  have HF := Lib.hid (And.intro hbw hB2)
  clear hb1 hb2 h2 hbw hB2
  go_wp2
  refine bodyPost_ret (v := .tuple #[.agg #[.bool false, .slice none 0 0, .slice none 0 0], .bool false]) (by simp [results, Try.results17, go_sem, t0, t1, t2]) rfl ⟨rfl, below_set3 HF.out.1 (by omega) _ _ _⟩

set_option maxHeartbeats 4000000 in
theorem parse_whole {s b num den : ByteArray} {neg : Bool} {n : Nat} {o2 : Option Nat} (H : ParseC s b num den neg false (some n) o2) (hn : n < pw 23) (w : World) : Calls Try.prog 17 #[.string s] w (ParseP (some (rat neg n 1)) w) := by
  have HH := Lib.hid H
  clear H
  go_enter Try.func17, Try.ntmps17
  go_wp2_with fail
  obtain ⟨W0, hW0⟩ : ∃ W0, w.alloc (.cells #[.bool false, .slice none 0 0, .slice none 0 0] 24) = W0 := ⟨_, rfl⟩
  have hbw : Below w.heap.size w W0 := by rw [← hW0]; exact below_alloc1 _ _
  have hB : BoxV W0 w.heap.size w.heap.size 24 [.bool false, .slice none 0 0, .slice none 0 0] := by rw [← hW0]; exact BoxV.new w w.heap.size 24 (Nat.le_refl _) [.bool false, .slice none 0 0, .slice none 0 0]
  rw [hW0]
  clear hW0
  have HX := Lib.hid (And.intro hbw hB)
  clear hbw hB
  refine (HH.out.cp _).mono ?_
  rintro e w1 ⟨rfl, rfl⟩
  go_wp2_with fail
  refine (HH.out.cc _).mono ?_
  rintro e w1 ⟨rfl, hb1⟩
  go_wp2_with fail
  refine (HH.out.p1 _).mono ?_
  intro e w2 h2
  obtain ⟨a1, n1, c1, rfl, hn1, hb2⟩ := h2.some_
  have hbw := below_next' HX.out.1 (hb1.trans (hb2.mono hb1.size))
  have hB2 := (HX.out.2.below hb1).below hb2
  have HG := Lib.hid (And.intro hbw (And.intro hB2 hn1))
  clear hb1 hb2 h2 hbw hB2 hn1
  go_wp2_with fail
  obtain ⟨W3, hW3⟩ : ∃ W3, w2.alloc (.cells #[.int .u32 1] 58) = W3 := ⟨_, rfl⟩
  have hb3 : Below w2.heap.size w2 W3 := by rw [← hW3]; exact below_alloc1 _ _
  have hone : W3.cell? ⟨w2.heap.size, 0, none⟩ = some (.int .u32 1) := by rw [← hW3, World.cell?_alloc_new]; rfl
  rw [hW3]
  clear hW3
  have hB3 := HG.out.2.1.below hb3
  have hbw3 := below_next' HG.out.1 hb3
  have hcan := canonical_any neg a1 _ n1 c1 1 1 n 1 23 W3 (HG.out.2.2.below hb3) (lim_one hone) (by omega) hn (Nat.lt_of_lt_of_le (by decide : 1 < pw 1) (pw_le (by omega))) (by omega)
  have HK := Lib.hid (And.intro hcan (And.intro hB3 hbw3))
  clear hb3 hone hB3 hbw3 hcan
  go_wp2_with fail
  refine HK.out.1.mono ?_
  rintro e w4 ⟨v, rfl, hv, hb4⟩
  have hbb := below_next' HK.out.2.2 hb4
  have hB5 := HK.out.2.1.below hb4
  clear hb4
  obtain ⟨yn, yl, yc, dn, dl, dc, rfl, hzn, hzd⟩ := hv
  obtain ⟨⟨t0, t1, t2⟩, i0, i1, i2⟩ := hB5.three
  have HF := Lib.hid (And.intro hzn (And.intro hzd (And.intro hbb hB5)))
  clear hzn hzd hbb hB5
  go_wp2
  obtain ⟨hzn, hzd, hbw3, hB5⟩ := HF.out
  refine bodyPost_ret (v := .tuple #[.agg #[.bool (decide ((rat neg n 1).num < 0)), .slice yn yl yc, .slice dn dl dc], .bool true]) (by simp [results, Try.results17, go_sem, t0, t1, t2]) rfl ⟨⟨.agg #[.bool (decide ((rat neg n 1).num < 0)), .slice yn yl yc, .slice dn dl dc], rfl, ?_⟩, below_set3 hbw3 (by omega) _ _ _⟩
  exact RatC.other (⟨yn, yl, yc, dn, dl, dc, rfl, hzn, hzd⟩ : RatC w4 _ (rat neg n 1)) hB5 noLimb_nil3 (grown_set3 _ _ _ _ _)

set_option maxHeartbeats 4000000 in
theorem parse_den_none {s b num den : ByteArray} {neg : Bool} {n : Nat} (H : ParseC s b num den neg true (some n) none) (w : World) : Calls Try.prog 17 #[.string s] w (ParseP none w) := by
  have HH := Lib.hid H
  clear H
  go_enter Try.func17, Try.ntmps17
  go_wp2_with fail
  obtain ⟨W0, hW0⟩ : ∃ W0, w.alloc (.cells #[.bool false, .slice none 0 0, .slice none 0 0] 24) = W0 := ⟨_, rfl⟩
  have hbw : Below w.heap.size w W0 := by rw [← hW0]; exact below_alloc1 _ _
  have hB : BoxV W0 w.heap.size w.heap.size 24 [.bool false, .slice none 0 0, .slice none 0 0] := by rw [← hW0]; exact BoxV.new w w.heap.size 24 (Nat.le_refl _) [.bool false, .slice none 0 0, .slice none 0 0]
  rw [hW0]
  clear hW0
  have HX := Lib.hid (And.intro hbw hB)
  clear hbw hB
  refine (HH.out.cp _).mono ?_
  rintro e w1 ⟨rfl, rfl⟩
  go_wp2_with fail
  refine (HH.out.cc _).mono ?_
  rintro e w1 ⟨rfl, hb1⟩
  go_wp2_with fail
  refine (HH.out.p1 _).mono ?_
  intro e w2 h2
  obtain ⟨a1, n1, c1, rfl, hn1, hb2⟩ := h2.some_
  have hbw := below_next' HX.out.1 (hb1.trans (hb2.mono hb1.size))
  have hB2 := (HX.out.2.below hb1).below hb2
  have HG := Lib.hid (And.intro hbw (And.intro hB2 hn1))
  clear hb1 hb2 h2 hbw hB2 hn1
  go_wp2_with fail
  obtain ⟨W3, hW3⟩ : ∃ W3, w2.alloc (.cells #[.int .u32 1] 58) = W3 := ⟨_, rfl⟩
  have hb3 : Below w2.heap.size w2 W3 := by rw [← hW3]; exact below_alloc1 _ _
  have hone : W3.cell? ⟨w2.heap.size, 0, none⟩ = some (.int .u32 1) := by rw [← hW3, World.cell?_alloc_new]; rfl
  rw [hW3]
  clear hW3
  have HK := Lib.hid (And.intro (HG.out.2.1.below hb3) (And.intro (below_next' HG.out.1 hb3) (HG.out.2.2.below hb3)))
  clear hb3 hone
  go_wp2_with fail
  refine (HH.out.p2 _).mono ?_
  intro e w4 h4
  obtain ⟨rfl, hb4⟩ := h4.none_
  have hbw := below_next' HK.out.2.1 hb4
  have hB2 := HK.out.1.below hb4
  obtain ⟨⟨t0, t1, t2⟩, i0, i1, i2⟩ := hB2.three
  have HF := Lib.hid (And.intro hbw hB2)
  clear hb4 h4 hbw hB2
  go_wp2
  refine bodyPost_ret (v := .tuple #[.agg #[.bool false, .slice none 0 0, .slice none 0 0], .bool false]) (by simp [results, Try.results17, go_sem, t0, t1, t2]) rfl ⟨rfl, below_set3 HF.out.1 (by omega) _ _ _⟩

set_option maxHeartbeats 4000000 in
theorem parse_den_zero {s b num den : ByteArray} {neg : Bool} {n : Nat} (H : ParseC s b num den neg true (some n) (some 0)) (w : World) : Calls Try.prog 17 #[.string s] w (ParseP none w) := by
  have HH := Lib.hid H
  clear H
  go_enter Try.func17, Try.ntmps17
  go_wp2_with fail
  obtain ⟨W0, hW0⟩ : ∃ W0, w.alloc (.cells #[.bool false, .slice none 0 0, .slice none 0 0] 24) = W0 := ⟨_, rfl⟩
  have hbw : Below w.heap.size w W0 := by rw [← hW0]; exact below_alloc1 _ _
  have hB : BoxV W0 w.heap.size w.heap.size 24 [.bool false, .slice none 0 0, .slice none 0 0] := by rw [← hW0]; exact BoxV.new w w.heap.size 24 (Nat.le_refl _) [.bool false, .slice none 0 0, .slice none 0 0]
  rw [hW0]
  clear hW0
  have HX := Lib.hid (And.intro hbw hB)
  clear hbw hB
  refine (HH.out.cp _).mono ?_
  rintro e w1 ⟨rfl, rfl⟩
  go_wp2_with fail
  refine (HH.out.cc _).mono ?_
  rintro e w1 ⟨rfl, hb1⟩
  go_wp2_with fail
  refine (HH.out.p1 _).mono ?_
  intro e w2 h2
  obtain ⟨a1, n1, c1, rfl, hn1, hb2⟩ := h2.some_
  have hbw := below_next' HX.out.1 (hb1.trans (hb2.mono hb1.size))
  have hB2 := (HX.out.2.below hb1).below hb2
  have HG := Lib.hid (And.intro hbw (And.intro hB2 hn1))
  clear hb1 hb2 h2 hbw hB2 hn1
  go_wp2_with fail
  obtain ⟨W3, hW3⟩ : ∃ W3, w2.alloc (.cells #[.int .u32 1] 58) = W3 := ⟨_, rfl⟩
  have hb3 : Below w2.heap.size w2 W3 := by rw [← hW3]; exact below_alloc1 _ _
  have hone : W3.cell? ⟨w2.heap.size, 0, none⟩ = some (.int .u32 1) := by rw [← hW3, World.cell?_alloc_new]; rfl
  rw [hW3]
  clear hW3
  have HK := Lib.hid (And.intro (HG.out.2.1.below hb3) (And.intro (below_next' HG.out.1 hb3) (HG.out.2.2.below hb3)))
  clear hb3 hone
  go_wp2_with fail
  refine (HH.out.p2 _).mono ?_
  intro e w4 h4
  obtain ⟨a2, n2, c2, rfl, hn2, hb4⟩ := h4.some_
  have hz : n2 = 0 := (nt_len hn2).2 rfl
  subst hz
  have hbw := below_next' HK.out.2.1 hb4
  have hB2 := HK.out.1.below hb4
  obtain ⟨⟨t0, t1, t2⟩, i0, i1, i2⟩ := hB2.three
  have HF := Lib.hid (And.intro hbw hB2)
  clear hb4 h4 hbw hB2 hn2
  go_wp2
  refine bodyPost_ret (v := .tuple #[.agg #[.bool false, .slice none 0 0, .slice none 0 0], .bool false]) (by simp [results, Try.results17, go_sem, t0, t1, t2]) rfl ⟨rfl, below_set3 HF.out.1 (by omega) _ _ _⟩

set_option maxHeartbeats 4000000 in
theorem parse_den {s b num den : ByteArray} {neg : Bool} {n d : Nat} (H : ParseC s b num den neg true (some n) (some d)) (hn : n < pw 23) (hd : d < pw 23) (hd0 : 0 < d) (w : World) : Calls Try.prog 17 #[.string s] w (ParseP (some (rat neg n d)) w) := by
  have HH := Lib.hid H
  clear H
  go_enter Try.func17, Try.ntmps17
  go_wp2_with fail
  obtain ⟨W0, hW0⟩ : ∃ W0, w.alloc (.cells #[.bool false, .slice none 0 0, .slice none 0 0] 24) = W0 := ⟨_, rfl⟩
  have hbw : Below w.heap.size w W0 := by rw [← hW0]; exact below_alloc1 _ _
  have hB : BoxV W0 w.heap.size w.heap.size 24 [.bool false, .slice none 0 0, .slice none 0 0] := by rw [← hW0]; exact BoxV.new w w.heap.size 24 (Nat.le_refl _) [.bool false, .slice none 0 0, .slice none 0 0]
  rw [hW0]
  clear hW0
  have HX := Lib.hid (And.intro hbw hB)
  clear hbw hB
  refine (HH.out.cp _).mono ?_
  rintro e w1 ⟨rfl, rfl⟩
  go_wp2_with fail
  refine (HH.out.cc _).mono ?_
  rintro e w1 ⟨rfl, hb1⟩
  go_wp2_with fail
  refine (HH.out.p1 _).mono ?_
  intro e w2 h2
  obtain ⟨a1, n1, c1, rfl, hn1, hb2⟩ := h2.some_
  have hbw := below_next' HX.out.1 (hb1.trans (hb2.mono hb1.size))
  have hB2 := (HX.out.2.below hb1).below hb2
  have HG := Lib.hid (And.intro hbw (And.intro hB2 hn1))
  clear hb1 hb2 h2 hbw hB2 hn1
  go_wp2_with fail
  obtain ⟨W3, hW3⟩ : ∃ W3, w2.alloc (.cells #[.int .u32 1] 58) = W3 := ⟨_, rfl⟩
  have hb3 : Below w2.heap.size w2 W3 := by rw [← hW3]; exact below_alloc1 _ _
  have hone : W3.cell? ⟨w2.heap.size, 0, none⟩ = some (.int .u32 1) := by rw [← hW3, World.cell?_alloc_new]; rfl
  rw [hW3]
  clear hW3
  have HK := Lib.hid (And.intro (HG.out.2.1.below hb3) (And.intro (below_next' HG.out.1 hb3) (HG.out.2.2.below hb3)))
  clear hb3 hone
  go_wp2_with fail
  refine (HH.out.p2 _).mono ?_
  intro e w4 h4
  obtain ⟨a2, n2, c2, rfl, hn2, hb4⟩ := h4.some_
  have hz : ¬ n2 = 0 := fun e => by have := (nt_len hn2).1 e; omega
  have hz2 : ((n2 : Int) == 0) = false := by rw [beq_eq_false_iff_ne]; omega
  have hB4 := HK.out.1.below hb4
  have hbw4 := below_next' HK.out.2.1 hb4
  have hcan := canonical_any neg a1 a2 n1 c1 n2 c2 n d 23 w4 (HK.out.2.2.below hb4) hn2 hd0 hn hd (by omega)
  have HM := Lib.hid (And.intro hcan (And.intro hB4 hbw4))
  clear hb4 h4 hn2 hB4 hbw4 hcan
  go_wp2_with fail
  refine HM.out.1.mono ?_
  rintro e w5 ⟨v, rfl, hv, hb5⟩
  have hbb := below_next' HM.out.2.2 hb5
  have hB5 := HM.out.2.1.below hb5
  clear hb5
  obtain ⟨yn, yl, yc, dn, dl, dc, rfl, hzn, hzd⟩ := hv
  obtain ⟨⟨t0, t1, t2⟩, i0, i1, i2⟩ := hB5.three
  have HF := Lib.hid (And.intro hzn (And.intro hzd (And.intro hbb hB5)))
  clear hzn hzd hbb hB5
  go_wp2
  obtain ⟨hzn, hzd, hbw3, hB5⟩ := HF.out
  refine bodyPost_ret (v := .tuple #[.agg #[.bool (decide ((rat neg n d).num < 0)), .slice yn yl yc, .slice dn dl dc], .bool true]) (by simp [results, Try.results17, go_sem, t0, t1, t2]) rfl ⟨⟨.agg #[.bool (decide ((rat neg n d).num < 0)), .slice yn yl yc, .slice dn dl dc], rfl, ?_⟩, below_set3 hbw3 (by omega) _ _ _⟩
  exact RatC.other (⟨yn, yl, yc, dn, dl, dc, rfl, hzn, hzd⟩ : RatC w5 _ (rat neg n d)) hB5 noLimb_nil3 (grown_set3 _ _ _ _ _)

/-- The text behind the sign. -/
def bodyL (l : List UInt8) : List UInt8 := if negB l then l.drop 1 else l
/-- What a text says: a sign, digits, and digits behind a slash. -/
def parseR (l : List UInt8) : Option Rat := match digs (fore (bodyL l)) with
  | none => none
  | some n => if 0 ≤ slash (bodyL l) then (match digs (aft (bodyL l)) with
      | none => none
      | some d => if d = 0 then none else some (rat (negB l) n d)) else some (rat (negB l) n 1)

theorem body_data (s : ByteArray) : (body s).data.toList = bodyL s.data.toList := by
  unfold body bodyL
  split
  · rw [Lib.extract_data, List.take_of_length_le (by rw [List.length_drop, size_data]; exact Nat.le_refl _)]
  · rfl
theorem body_size (s : ByteArray) : (body s).size ≤ s.size := by
  rw [← size_data, body_data, ← size_data]
  unfold bodyL
  split
  · rw [List.length_drop]; omega
  · exact Nat.le_refl _

theorem parse_any (s : ByteArray) (w : World) (hs : s.size ≤ 500) : Calls Try.prog 17 #[.string s] w (ParseP (parseR s.data.toList) w) := by
  have hbs := body_size s
  have hbd := body_data s
  have H : ParseC s (body s) ⟨(fore (bodyL s.data.toList)).toArray⟩ ⟨(if 0 ≤ slash (bodyL s.data.toList) then aft (bodyL s.data.toList) else []).toArray⟩ (negB s.data.toList) (decide (0 ≤ slash (bodyL s.data.toList))) (digs (fore (bodyL s.data.toList))) (digs (if 0 ≤ slash (bodyL s.data.toList) then aft (bodyL s.data.toList) else [])) := by
    refine ⟨fun w => cutPrefix_any s w, fun w => ?_, fun w => ?_, fun w => ?_⟩
    · have := cut_any' (body s) w (by omega)
      rw [hbd] at this
      exact this
    · refine parseNat_any _ w ?_
      rw [← size_data]
      have h1 : (fore (bodyL s.data.toList)).length ≤ (bodyL s.data.toList).length := (List.takeWhile_prefix _).length_le
      rw [← hbd, size_data] at h1
      show (fore (bodyL s.data.toList)).length ≤ _
      rw [← hbd]; omega
    · refine parseNat_any _ w ?_
      rw [← size_data]
      show (if 0 ≤ slash (bodyL s.data.toList) then aft (bodyL s.data.toList) else []).length ≤ _
      have h1 : (aft (bodyL s.data.toList)).length ≤ (bodyL s.data.toList).length := by unfold aft; rw [List.length_drop]; omega
      rw [← hbd, size_data] at h1
      rw [← hbd]
      split
      · omega
      · simp
  unfold parseR
  cases h1 : digs (fore (bodyL s.data.toList)) with
  | none => rw [h1] at H; exact parse_none H w
  | some n =>
    rw [h1] at H
    have hn := digs_lt h1
    by_cases h2 : 0 ≤ slash (bodyL s.data.toList)
    · rw [decide_eq_true h2, if_pos h2] at H
      simp only [if_pos h2]
      cases h3 : digs (aft (bodyL s.data.toList)) with
      | none => rw [h3] at H; exact parse_den_none H w
      | some d =>
        rw [h3] at H
        by_cases h4 : d = 0
        · subst h4; simp only [if_true]; exact parse_den_zero H w
        · simp only [if_neg h4]; exact parse_den H hn (digs_lt h3) (by omega) w
    · rw [decide_eq_false h2, if_neg h2] at H
      simp only [if_neg h2]
      exact parse_whole H hn w

end Go.Proofs.Ytdpiclmjdcjajaa

