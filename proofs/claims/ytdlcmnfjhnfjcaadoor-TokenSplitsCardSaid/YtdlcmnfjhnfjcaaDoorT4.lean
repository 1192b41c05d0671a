/-
  The walks of both Keyword functions, HasPrefix, Clone, skipGap and the reference's sign. Conditions: as each says.
-/
import Derived.Test.YtdlcmnfjhnfjcaaDoorT3
import Derived.Lib.BufferWrite
namespace Go.Proofs.YtdlcmnfjhnfjcaaDoor
open Go.RowKit Tok

def isKw (s : ByteArray) : Bool := decide (s.data.toList ∈ kws)
theorem isKw_iff (s : ByteArray) : isKw s = true ↔ s.toList ∈ kws := by rw [Lib.toList_data]; simp [isKw]
def kwAt (k : Nat) : ByteArray := ⟨((kws[k]?).getD []).toArray⟩
theorem kwAt_toList (k : Nat) (h : k < 28) : (kwAt k).toList ∈ kws := by
  have : ∀ k, k < 28 → (kwAt k).toList ∈ kws := by decide +kernel
  exact this k h
theorem kw_of (s : ByteArray) (h : s.toList ∈ kws) : ∃ k, k < 28 ∧ (kwAt k).toList = s.toList := by
  obtain ⟨k, hk, e⟩ := List.mem_iff_getElem.mp h
  have h28 : k < 28 := hk
  have hl : ∀ k, k < 28 → (kwAt k).toList = (kws[k]?).getD [] := by decide +kernel
  refine ⟨k, h28, ?_⟩
  rw [hl k h28, List.getElem?_eq_getElem hk, ← e]; rfl

set_option maxRecDepth 100000 in
set_option maxHeartbeats 4000000 in
theorem keyword_any (s : ByteArray) (w : World) : Calls Tryd.prog 27 #[.string s] w (Ans w (.bool (isKw s))) := by
  go_enter Tryd.func27, Tryd.ntmps27
  go_wp2
  all_goals first
    | (exfalso; simp_all; done)
    | (have hT : isKw s = true := (isKw_iff s).2 (by simp_all [kws]; done)
       go_ret; exact ⟨by rw [hT]; rfl, rfl⟩)
    | (have hF : isKw s = false := by
         rw [← Bool.not_eq_true, isKw_iff]; simp_all [kws]; done
       go_ret; exact ⟨by rw [hF]; rfl, rfl⟩)

theorem kwAt_cells (w : World) (k : Nat) (h : k < 28) : (w.alloc (.cells #[.string ⟨#[97, 114, 114, 97, 121]⟩, .string ⟨#[98, 111, 111, 108]⟩, .string ⟨#[99, 97, 116, 99, 104]⟩, .string ⟨#[100, 97, 116, 97]⟩, .string ⟨#[101, 108, 115, 101]⟩, .string ⟨#[101, 110, 100]⟩, .string ⟨#[102, 97, 108, 115, 101]⟩, .string ⟨#[102, 110]⟩, .string ⟨#[102, 117, 110]⟩, .string ⟨#[103, 101, 116]⟩, .string ⟨#[105, 102]⟩, .string ⟨#[105, 110]⟩, .string ⟨#[105, 110, 116]⟩, .string ⟨#[108, 101, 110]⟩, .string ⟨#[108, 101, 116]⟩, .string ⟨#[109, 97, 116, 99, 104]⟩, .string ⟨#[110, 101, 119]⟩, .string ⟨#[114, 97, 105, 115, 101]⟩, .string ⟨#[114, 101, 97, 100]⟩, .string ⟨#[114, 101, 102]⟩, .string ⟨#[115, 101, 116]⟩, .string ⟨#[116, 104, 101, 110]⟩, .string ⟨#[116, 105, 99, 107]⟩, .string ⟨#[116, 114, 117, 101]⟩, .string ⟨#[116, 114, 121]⟩, .string ⟨#[117, 110, 105, 116]⟩, .string ⟨#[119, 105, 116, 104]⟩, .string ⟨#[119, 114, 105, 116, 101]⟩] 9)).cell? ⟨w.heap.size, k, none⟩ = some (.string (kwAt k)) := by
  rw [World.cell?_alloc_new]
  have : ∀ k, k < 28 → (#[.string ⟨#[97, 114, 114, 97, 121]⟩, .string ⟨#[98, 111, 111, 108]⟩, .string ⟨#[99, 97, 116, 99, 104]⟩, .string ⟨#[100, 97, 116, 97]⟩, .string ⟨#[101, 108, 115, 101]⟩, .string ⟨#[101, 110, 100]⟩, .string ⟨#[102, 97, 108, 115, 101]⟩, .string ⟨#[102, 110]⟩, .string ⟨#[102, 117, 110]⟩, .string ⟨#[103, 101, 116]⟩, .string ⟨#[105, 102]⟩, .string ⟨#[105, 110]⟩, .string ⟨#[105, 110, 116]⟩, .string ⟨#[108, 101, 110]⟩, .string ⟨#[108, 101, 116]⟩, .string ⟨#[109, 97, 116, 99, 104]⟩, .string ⟨#[110, 101, 119]⟩, .string ⟨#[114, 97, 105, 115, 101]⟩, .string ⟨#[114, 101, 97, 100]⟩, .string ⟨#[114, 101, 102]⟩, .string ⟨#[115, 101, 116]⟩, .string ⟨#[116, 104, 101, 110]⟩, .string ⟨#[116, 105, 99, 107]⟩, .string ⟨#[116, 114, 117, 101]⟩, .string ⟨#[116, 114, 121]⟩, .string ⟨#[117, 110, 105, 116]⟩, .string ⟨#[119, 105, 116, 104]⟩, .string ⟨#[119, 114, 105, 116, 101]⟩] : Array Value)[k]? = some (.string (kwAt k)) := by
    intro k hk
    match k, hk with
    | 0, _ => rfl
    | 1, _ => rfl
    | 2, _ => rfl
    | 3, _ => rfl
    | 4, _ => rfl
    | 5, _ => rfl
    | 6, _ => rfl
    | 7, _ => rfl
    | 8, _ => rfl
    | 9, _ => rfl
    | 10, _ => rfl
    | 11, _ => rfl
    | 12, _ => rfl
    | 13, _ => rfl
    | 14, _ => rfl
    | 15, _ => rfl
    | 16, _ => rfl
    | 17, _ => rfl
    | 18, _ => rfl
    | 19, _ => rfl
    | 20, _ => rfl
    | 21, _ => rfl
    | 22, _ => rfl
    | 23, _ => rfl
    | 24, _ => rfl
    | 25, _ => rfl
    | 26, _ => rfl
    | 27, _ => rfl
    | n + 28, h => omega
  exact this k h

set_option maxRecDepth 100000 in
set_option maxHeartbeats 4000000 in
theorem refKeyword_any (s : ByteArray) (w : World) : Calls Tryd.prog 19 #[.string s] w fun e w' => e = .returned (.bool (isKw s)) ∧ Below w.heap.size w w' := by
  go_enter Tryd.func19, Tryd.ntmps19
  go_wp2
  go_loop [4] (fun i => ∃ k : Nat, k ≤ 28 ∧ i = .int .i64 k ∧ ∀ j, j < k → (kwAt j).toList ≠ s.toList) (fun i => 28 - (intOf i).toNat)
  case atStart => exact ⟨0, by omega, rfl, fun j hj => by omega⟩
  case round =>
    obtain ⟨k, hk, rfl, hn⟩ := hrel
    have HN := Lib.hid hn
    clear hn
    by_cases hlt : k < 28
    · have hc := kwAt_cells w k hlt
      by_cases he : ((kwAt k).toList == s.toList) = true
      · go_wp2
        have hT : isKw s = true := (isKw_iff s).2 (by rw [← eq_of_beq he]; exact kwAt_toList k hlt)
        go_ret
        exact ⟨by rw [hT]; rfl, (Below.refl _ _).alloc (Nat.le_refl _) _⟩
      · have he : ((kwAt k).toList == s.toList) = false := by simpa using he
        go_wp2
        go_round
        case rel => exact ⟨k + 1, by omega, by go_num, fun j hj => by
          rcases Nat.lt_or_eq_of_le (Nat.le_of_lt_succ hj) with h | h
          · exact HN.out j h
          · subst h; simpa using he⟩
        case measure => simp [intOf]; omega
    · go_wp2
      have hF : isKw s = false := by
        rw [← Bool.not_eq_true, isKw_iff]
        intro hm
        obtain ⟨j, hj, e⟩ := kw_of s hm
        exact HN.out j (by omega) e
      go_ret
      exact ⟨by rw [hF]; rfl, (Below.refl _ _).alloc (Nat.le_refl _) _⟩

def preB (p l : List UInt8) : Bool := p.isPrefixOf l
theorem hasPrefixIn_any (s t : ByteArray) (w : World) :
    Calls Tryd.prog 30 #[.string s, .string t] w (Ans w (.bool (preB t.data.toList s.data.toList))) := by
  by_cases hle : t.size ≤ s.size
  · obtain ⟨q, hq⟩ : ∃ q, ((s.extract 0 t.size).toList == t.toList) = q := ⟨_, rfl⟩
    have hp : preB t.data.toList s.data.toList = q := by
      unfold preB
      have h1 := Lib.hasPrefix_of_take s.data.toList t.data.toList
      unfold Lib.hasPrefix at h1
      rw [← h1, ← hq, Lib.toList_data, Lib.toList_data, Lib.extract_data, size_data, size_data, decide_eq_true hle]
      simp
    rw [hp]
    clear hp
    cases q
    all_goals
      go_enter Tryd.func30, Tryd.ntmps30
      go_wp2
      go_ret
      exact ⟨rfl, rfl⟩
  · have hp : preB t.data.toList s.data.toList = false := by
      unfold preB
      rw [← Bool.not_eq_true, List.isPrefixOf_iff_prefix]
      intro h
      have := h.length_le
      rw [size_data, size_data] at this
      omega
    rw [hp]
    go_enter Tryd.func30, Tryd.ntmps30
    go_wp2
    go_ret
    exact ⟨rfl, rfl⟩
theorem hasPrefix_any (s t : ByteArray) (w : World) :
    Calls Tryd.prog 15 #[.string s, .string t] w (Ans w (.bool (preB t.data.toList s.data.toList))) := by
  go_enter Tryd.func15, Tryd.ntmps15
  go_wp2_with (go_at_call 30; refine (hasPrefixIn_any _ _ _).mono ?_; rintro e w' ⟨rfl, rfl⟩)
  go_ret
  exact ⟨rfl, rfl⟩

theorem Tryd.info5 : (Tryd.prog.info? 5).map (fun i => (i.zero, i.size, i.bytes)) = some (some (.int .u8 0), 1, 1) := by kernel_rfl

set_option maxHeartbeats 4000000 in
set_option maxRecDepth 100000 in
theorem cloneIn_any (s : ByteArray) (w : World) (hs : s.size ≤ 16384) :
    Calls Tryd.prog 29 #[.string s] w fun e w' => e = .returned (.string s) ∧ Below w.heap.size w w' := by
  by_cases h0 : s.size = 0
  · have hs : s = ⟨#[]⟩ := by
      apply ByteArray.ext
      exact Array.eq_empty_of_size_eq_zero h0
    subst hs
    go_enter Tryd.func29, Tryd.ntmps29
    go_wp2
    go_ret
    exact ⟨rfl, Below.refl _ _⟩
  · obtain ⟨i0, hi, hz0, hz1, hz2⟩ := info_parts Tryd.info5
    have hinfo : (Tryd.prog.info? 5).map (·.size) = some 1 := by rw [hi]; simp [hz1]
    have hco : Tryd.prog.cellsOf 5 = 1 := by simp [Program.cellsOf, hi, hz1]
    obtain ⟨M, hM⟩ : ∃ M, M = madeCells (Value.int .u8 0).cells (((s.size : Nat) : Int).toNat * i0.size) := ⟨_, rfl⟩
    have hMs : M.size = s.size := by rw [hM, size_madeCells, hz1]; simp
    have hmk : ∀ W : World, (Instr.makeSlice 48 (.int .i64 (s.size : Int)) (.int .i64 (s.size : Int))).run Tryd.prog W = .ok (.slice (some ⟨W.heap.size, 0, none⟩) s.size s.size) (W.alloc (.cells M 5)) := fun W => by
      have h := run_make (P := Tryd.prog) W 48 5 i0 (.int .u8 0) Tryd.underlying48 hi hz0 .i64 .i64 (s.size : Int) (s.size : Int) (by omega) (by omega) (by rw [hz2]; omega) (by omega)
      rw [← hM] at h
      simpa using h
    clear hM
    have hcp := Lib.run_copy_row_string (P := Tryd.prog) (w.alloc (.cells M 5)) 48 9 3 5 w.heap.size 0 s.size s.size s M 5 Tryd.underlying48 hinfo (heap_alloc_new w _) (Nat.le_refl _) (by omega)
    obtain ⟨Y, hY⟩ : ∃ Y, Y = (M.toList.take 0 ++ Lib.byteCells s.data.toList ++ M.toList.drop (0 + s.size)).toArray := ⟨_, rfl⟩
    rw [← hY] at hcp
    have hYl : Y.toList = Lib.byteCells s.data.toList := by
      rw [hY, List.toList_toArray, List.take_zero, List.nil_append, List.drop_of_length_le (by rw [Array.length_toList]; omega), List.append_nil]
    have hYs : Y.size = s.size := by rw [← Array.length_toList, hYl, Lib.byteCells_length, ← Lib.size_eq]
    have hgY : ((w.alloc (.cells M 5)).setRow w.heap.size Y).heap[w.heap.size]? = some (.cells Y 5 (0, 0)) := setRow_heap _ _ M _ 5 (0, 0) (heap_alloc_new w _)
    have hne : s.data.toList ≠ [] := fun e => h0 (by rw [Lib.size_eq, e]; rfl)
    have hUS := Lib.run_unsafeString_row (P := Tryd.prog) ((w.alloc (.cells M 5)).setRow w.heap.size Y) 49 3 9 5 Tryd.underlying49 hco w.heap.size Y.size (by unfold World.shape?; rw [hgY]) s.data.toList hne (by rw [← Lib.size_eq]; omega) (by rw [← Lib.size_eq]; omega)
      (fun j x hx => Lib.cells_of_row hgY Y.size j _ (by rw [List.take_of_length_le (by rw [Array.length_toList]; exact Nat.le_refl _), hYl]; simp [Lib.byteCells, hx]))
    rw [← Lib.size_eq] at hUS
    clear hY
    go_enter Tryd.func29, Tryd.ntmps29
    go_wp2
    go_ret
    have hb1 : Below w.heap.size w (w.alloc (.cells M 5)) := (Below.refl _ w).alloc (Nat.le_refl _) _
    have hb2 : Below w.heap.size (w.alloc (.cells M 5)) ((w.alloc (.cells M 5)).setRow w.heap.size Y) := ⟨rfl, rfl, rfl, by simp, fun k hk => setRow_other _ _ _ _ (by omega)⟩
    exact ⟨rfl, Lib.below_freeze (hb1.trans hb2) (p := ⟨w.heap.size, 0, none⟩) (Nat.le_refl _) _⟩
theorem clone_any (s : ByteArray) (w : World) (hs : s.size ≤ 16384) :
    Calls Tryd.prog 14 #[.string s] w fun e w' => e = .returned (.string s) ∧ Below w.heap.size w w' := by
  go_enter Tryd.func14, Tryd.ntmps14
  go_wp2_with (go_at_call 29; refine (cloneIn_any _ _ hs).mono ?_; rintro e w' ⟨rfl, hb⟩)
  go_ret
  exact ⟨rfl, by assumption⟩

end Go.Proofs.YtdlcmnfjhnfjcaaDoor
