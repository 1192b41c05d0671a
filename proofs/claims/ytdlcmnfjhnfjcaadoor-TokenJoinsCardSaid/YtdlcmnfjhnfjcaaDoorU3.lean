/-
  The walk of the law TokenJoins. Condition: the table of signs lies in memory as the program's text lays it.
-/
import Derived.Test.YtdlcmnfjhnfjcaaDoorU1
import Derived.Test.YtdlcmnfjhnfjcaaDoorT11
import Derived.Deep.LoopGhost
namespace Go.Proofs.YtdlcmnfjhnfjcaaDoor
open Go.RowKit Tok

theorem bytes_app (a b : ByteArray) : (a ++ b).data.toList = a.data.toList ++ b.data.toList := by rw [ByteArray.data_append, Array.toList_append]
theorem join_take (L : List T) (sep : List UInt8) (k : Nat) (h : k < L.length) : join (L.take (k + 1)) sep = join (L.take k) sep ++ ((L[k]).text ++ sep) := by
  rw [List.take_succ_eq_append_getElem h, join_snoc]
theorem join_le (L : List T) (sep : List UInt8) (hs : sep.length ≤ 100) (h : ∀ t ∈ L, t.text.length ≤ 16384) : (join L sep).length ≤ L.length * 17000 := by
  induction L with
  | nil => simp [join]
  | cons t L ih =>
    rw [join_cons]
    have h1 := h t (List.mem_cons_self ..)
    have h2 := ih fun u hu => h u (List.mem_cons_of_mem _ hu)
    simp only [List.length_append, List.length_cons]
    omega

set_option maxRecDepth 100000 in
set_option maxHeartbeats 1000000 in
theorem joined_any (sb : ByteArray) (a : Option Addr) (n cap : Nat) (L : List T) (w : World) (hn : L.length = n) (hL : n ≤ 500) (hT : TokAt w a L) (hs : sb.size ≤ 100) (hx : ∀ t ∈ L, t.text.length ≤ 16384) :
    Calls Tryd.prog 10 #[.slice a n cap, .string sb] w fun e w' => ∃ tb : ByteArray, e = .returned (.string tb) ∧ tb.data.toList = join L sb.data.toList ∧ Below w.heap.size w w' := by
  have HN := Lib.hid (And.intro hn (And.intro hx hT))
  clear hn hx hT
  go_enter Tryd.func10, Tryd.ntmps10
  go_wp2
  go_loopw [5, 10] (fun x i wr => ∃ (k : Nat) (cb : ByteArray), k ≤ n ∧ i = .int .i64 k ∧ x = .string cb ∧ cb.size ≤ k * 17000 ∧ Hid (cb.data.toList = join (L.take k) sb.data.toList) ∧ Below w.heap.size w wr) (fun _ i _ => n - (intOf i).toNat)
  case atStart => exact ⟨0, ⟨#[]⟩, by omega, rfl, rfl, Nat.zero_le _, Lib.hid rfl, Below.refl _ _⟩
  case round =>
    obtain ⟨k, cb, hk, rfl, rfl, hcs, HC, hbw⟩ := hrel
    by_cases hlt : k < n
    · have hlt2 : k < L.length := by rw [HN.out.1]; exact hlt
      obtain ⟨g, rfl, c1, c2, c3⟩ := (TokAt.below HN.out.2.2 hbw) k hlt2
      have hj := join_take L sb.data.toList k hlt2
      have hts := HN.out.2.1 _ (List.getElem_mem hlt2)
      obtain ⟨t, ht⟩ : ∃ t, L[k] = t := ⟨_, rfl⟩
      rw [ht] at c1 c2 c3 hj hts
      clear ht
      obtain ⟨tb, htb⟩ : ∃ tb : ByteArray, (⟨t.text.toArray⟩ : ByteArray) = tb := ⟨_, rfl⟩
      have htd : tb.data.toList = t.text := by rw [← htb]
      have htz : tb.size ≤ 16384 := by rw [← size_data, htd]; exact hts
      rw [htb] at c2
      have HJ := Lib.hid (And.intro hj htd)
      clear hj htd htb hts
      go_wp2
      go_roundw
      case rel => exact ⟨k + 1, _, by omega, by go_num, rfl, by rw [ByteArray.size_append, ByteArray.size_append]; omega, Lib.hid (by rw [bytes_app, bytes_app, HC.out, HJ.out.1, HJ.out.2]), hbw.alloc hbw.size _⟩
      case measure => simp [intOf]; omega
    · obtain rfl : k = n := by omega
      go_wp2
      go_ret
      exact ⟨cb, rfl, by rw [HC.out, List.take_of_length_le (by rw [HN.out.1]; exact Nat.le_refl _)], hbw⟩

theorem split_okn (s : ByteArray) (w : World) (hsz : s.size ≤ maxLen) (hS : SignsAt w) {L : List T} {n : Nat} (h : Tok.split s.data.toList = .ok L) (hn : L.length = n) :
    Calls Tryd.prog 7 #[.string s] w fun e w' => ∃ a cap, e = .returned (.tuple #[.slice a n cap, .int .i64 0, .int .i64 0]) ∧ TokAt w' a L ∧ Below w.heap.size w w' := by
  subst hn; exact split_ok s w hsz hS h

/-- The three separators, in memory. -/
def SepsAt (w : World) (g : Nat) : Prop := ∀ k, k < 3 → ∃ sb : ByteArray, w.cell? ⟨g, k, none⟩ = some (.string sb) ∧ Sep sb.data.toList ∧ sb.size ≤ 100
theorem seps_new (w : World) (c cB : ByteArray) (hcB : (⟨#[35]⟩ ++ c ++ ⟨#[10]⟩ : ByteArray) = cB) (hc : c.size ≤ 20) (h : ∀ x ∈ c.data.toList, x.toNat ≠ 10) (t : TypeId) :
    SepsAt (w.alloc (.cells #[.string ⟨#[32]⟩, .string ⟨#[9, 13, 10]⟩, .string cB] t)) w.heap.size := by
  intro k hk
  rw [World.cell?_alloc_new]
  match k, hk with
  | 0, _ => exact ⟨_, rfl, sep_blank, by decide⟩
  | 1, _ => exact ⟨_, rfl, sep_blanks, by decide⟩
  | 2, _ =>
    refine ⟨cB, rfl, ?_, ?_⟩
    · have := sep_comment c.data.toList h
      rw [← hcB, bytes_app, bytes_app]
      exact this
    · rw [← hcB, ByteArray.size_append, ByteArray.size_append]
      have e1 : (⟨#[35]⟩ : ByteArray).size = 1 := rfl
      have e2 : (⟨#[10]⟩ : ByteArray).size = 1 := rfl
      omega
  | n + 3, h => omega
theorem SepsAt.below {w w' : World} {g : Nat} (h : SepsAt w g) (hb : Below w.heap.size w w') : SepsAt w' g := by
  intro k hk
  obtain ⟨sb, h1, h2⟩ := h k hk
  exact ⟨sb, (hb.cell (World.block_lt_of_cell? w _ h1)).trans h1, h2⟩
theorem placed_len {src : List UInt8} : ∀ {ts : List T} {k : Nat}, Placed src k ts → ∀ t ∈ ts, t.text.length ≤ src.length
  | u :: ts, _, h, t, ht => by
    rcases List.mem_cons.1 ht with rfl | ht
    · have := h.2.1; omega
    · exact placed_len h.2.2.2 t ht
/-- Two rows of tokens with the same kinds and texts. -/
theorem same_at {L M : List T} (h : M.map (fun t => (t.kind, t.text)) = L.map (fun t => (t.kind, t.text))) (j : Nat) (hj : j < L.length) (hj2 : j < M.length) : (M[j]).kind = (L[j]).kind ∧ (M[j]).text = (L[j]).text := by
  have h1 : (M.map (fun t => (t.kind, t.text)))[j]? = (L.map (fun t => (t.kind, t.text)))[j]? := by rw [h]
  rw [List.getElem?_map, List.getElem?_map, List.getElem?_eq_getElem hj, List.getElem?_eq_getElem hj2] at h1
  simpa using h1

set_option maxRecDepth 100000 in
theorem joins_bad (s c : ByteArray) (w : World) (hS : SignsAt w) (p er : Nat) (he : er = 2 ∨ er = 9)
    (cs : Calls Tryd.prog 7 #[.string s] w fun e w' => e = .returned (.tuple #[.slice none 0 0, .int .i64 p, .int .i64 er]) ∧ Below w.heap.size w w') : Calls Tryd.prog 5 #[.string s, .string c] w (LawP w) := by
  rcases he with rfl | rfl
  all_goals
    go_enter Tryd.func5, Tryd.ntmps5
    go_wp2_with (first
      | (go_at_call 7; refine cs.mono ?_; rintro e w1 ⟨rfl, hb⟩; clear cs)
      | (go_at_call 9; refine (awake_any _ (hS.below hb)).mono ?_; rintro e w2 ⟨rfl, hb2⟩))
    go_ret
    exact ⟨rfl, hb.trans (hb2.mono hb.size)⟩

set_option maxRecDepth 100000 in
theorem joins_long (s c : ByteArray) (w : World) (hS : SignsAt w) (n : Nat) (hl : 500 < n ∨ (n ≤ 500 ∧ 20 < c.size))
    (cs : Calls Tryd.prog 7 #[.string s] w fun e w' => ∃ a cap, e = .returned (.tuple #[.slice a n cap, .int .i64 0, .int .i64 0]) ∧ Below w.heap.size w w') : Calls Tryd.prog 5 #[.string s, .string c] w (LawP w) := by
  rcases hl with hl | ⟨hl, hl2⟩
  all_goals
    go_enter Tryd.func5, Tryd.ntmps5
    go_wp2_with (first
      | (go_at_call 7; refine cs.mono ?_; rintro e w1 ⟨a, cap, rfl, hb⟩; clear cs)
      | (go_at_call 9; refine (awake_any _ (hS.below hb)).mono ?_; rintro e w2 ⟨rfl, hb2⟩))
    go_ret
    exact ⟨rfl, hb.trans (hb2.mono hb.size)⟩

set_option maxRecDepth 100000 in
set_option maxHeartbeats 4000000 in
theorem joins_ok (s c : ByteArray) (w : World) (hS : SignsAt w) (L : List T) (n : Nat) (hn : L.length = n) (hL : n ≤ 500) (hc : c.size ≤ 20) (hx : ∀ t ∈ L, t.text.length ≤ 16384)
    (hJ : ∀ sep : List UInt8, Sep sep → (join L sep).length ≤ 16384 → ∃ M, Tok.split (join L sep) = .ok M ∧ M.map (fun t => (t.kind, t.text)) = L.map (fun t => (t.kind, t.text)))
    (cs : Calls Tryd.prog 7 #[.string s] w fun e w' => ∃ a cap, e = .returned (.tuple #[.slice a n cap, .int .i64 0, .int .i64 0]) ∧ TokAt w' a L ∧ Below w.heap.size w w') : Calls Tryd.prog 5 #[.string s, .string c] w (LawP w) := by
  have HN := Lib.hid (And.intro hn (And.intro hx hJ))
  clear hn hx hJ
  go_enter Tryd.func5, Tryd.ntmps5
  go_wp2_with (go_at_call 7; refine cs.mono ?_; rintro e w1 ⟨a, cap, rfl, hT, hb⟩; have HT := Lib.hid hT; clear cs hT)
  go_loop [8] (fun i => ∃ k : Nat, k ≤ c.size ∧ i = .int .i64 k ∧ Hid (∀ x ∈ c.data.toList.take k, x.toNat ≠ 10)) (fun i => c.size - (intOf i).toNat)
  case atStart => exact ⟨0, by omega, rfl, Lib.hid (by simp)⟩
  case round =>
    obtain ⟨k, hk, rfl, HK⟩ := hrel
    by_cases hlt : k < c.size
    · have htk := take_snoc c k hlt
      obtain ⟨x, hx⟩ : ∃ x, c[k] = x := ⟨_, rfl⟩
      rw [hx] at htk
      have HTK := Lib.hid htk
      clear htk
      by_cases h10 : x.toNat = 10
      · have f10 : ((x.toNat : Int) == 10) = true := by rw [beq_iff_eq]; omega
        clear h10
        go_wp2_with (go_at_call 9; refine (awake_any _ (hS.below hb)).mono ?_; rintro e w2 ⟨rfl, hb2⟩)
        go_ret
        exact ⟨rfl, hb.trans (hb2.mono hb.size)⟩
      · have f10 : ((x.toNat : Int) == 10) = false := by rw [beq_eq_false_iff_ne]; omega
        have H10 := Lib.hid h10
        clear h10
        go_wp2
        go_round
        case rel => exact ⟨k + 1, by omega, by go_num, Lib.hid (by
          rw [HTK.out]
          intro y hy
          rcases List.mem_append.1 hy with h | h
          · exact HK.out y h
          · rw [List.mem_singleton] at h; subst h; exact H10.out)⟩
        case measure => simp [intOf]; omega
    · obtain rfl : k = c.size := by omega
      have HC := Lib.hid (show ∀ x ∈ c.data.toList, x.toNat ≠ 10 by
        have := HK.out
        rw [List.take_of_length_le (by rw [size_data]; exact Nat.le_refl _)] at this
        exact this)
      obtain ⟨cB, hcB⟩ : ∃ x, (⟨#[35]⟩ ++ c ++ ⟨#[10]⟩ : ByteArray) = x := ⟨_, rfl⟩
      have hSp := seps_new w1 c cB hcB hc HC.out 9
      go_wp2
      clear hcB
      have hbA := (Below.refl w1.heap.size w1).alloc (Nat.le_refl _) (.cells #[.string ⟨#[32]⟩, .string ⟨#[9, 13, 10]⟩, .string cB] 9)
      generalize w1.alloc (.cells #[.string ⟨#[32]⟩, .string ⟨#[9, 13, 10]⟩, .string cB] 9) = w2 at hSp hbA ⊢
      obtain ⟨gs, hgs⟩ : ∃ x, w1.heap.size = x := ⟨_, rfl⟩
      rw [hgs] at hSp hbA ⊢
      subst hgs
      have HSP := Lib.hid hSp
      clear hSp
      go_loopg [51] 3 (fun g i wr => ∃ k : Nat, k + g = 3 ∧ i = .int .i64 k ∧ Below w2.heap.size w2 wr)
      case atStart => exact ⟨0, by omega, rfl, Below.refl _ _⟩
      case round =>
        obtain ⟨k, hkg, rfl, hbw⟩ := hrel
        have hSw := ((hS.below hb).below hbA).below hbw
        cases gk with
        | zero =>
          obtain rfl : k = 3 := by omega
          go_wp2_with (go_at_call 9; refine (awake_any _ hSw).mono ?_; rintro e w3 ⟨rfl, hb3⟩)
          go_ret
          exact ⟨rfl, ((hb.trans (hbA.mono hb.size)).trans (hbw.mono (Nat.le_trans hb.size hbA.size))).trans (hb3.mono (Nat.le_trans (Nat.le_trans hb.size hbA.size) hbw.size))⟩
        | succ g =>
          have hk3 : k < 3 := by omega
          obtain ⟨sb, hcell, hsep, hsb⟩ := (HSP.out.below hbw) k hk3
          have hTw := TokAt.below (TokAt.below HT.out hbA) hbw
          have jc := joined_any sb a n cap L wr HN.out.1 hL hTw hsb HN.out.2.1
          have HH := Lib.hid (And.intro hsep hTw)
          clear hsep hTw
          go_wp2_with (first
            | (go_at_call 10; refine jc.mono ?_; rintro e w3 ⟨tb, rfl, htd, hb3⟩; have HTD := Lib.hid htd; clear htd jc)
            | (go_at_call 7; obtain ⟨M, hM, hK⟩ := HN.out.2.2 _ HH.out.1 (by rw [← HTD.out, size_data]; omega); have hMl : M.length = n := (by have := congrArg List.length hK; simp only [List.length_map] at this; rw [this]; exact HN.out.1); refine (split_okn tb _ (by unfold maxLen; omega) (hSw.below hb3) (by rw [HTD.out]; exact hM) hMl).mono ?_; rintro e w4 ⟨a2, cap2, rfl, hT2, hb4⟩; have HM := Lib.hid (And.intro hK (And.intro hMl hT2)); clear hM hK hMl hT2))
          · go_roundg g
            case measure => omega
            case rel => exact ⟨k + 1, by omega, by go_num, hbw.trans (hb3.mono hbw.size)⟩
          · go_loopg [78] n (fun g2 i wy => ∃ j : Nat, j + g2 = n ∧ i = .int .i64 j ∧ Below w4.heap.size w4 wy)
            case atStart => exact ⟨0, by omega, rfl, Below.refl _ _⟩
            case round =>
              obtain ⟨j, hjg, rfl, hbj⟩ := hrel
              cases gk with
              | zero =>
                obtain rfl : j = n := by omega
                go_wp2
                go_roundg g
                case measure => omega
                case rel => exact ⟨k + 1, by omega, by go_num, ((hbw.trans (hb3.mono hbw.size)).trans (hb4.mono (Nat.le_trans hbw.size hb3.size))).trans (hbj.mono (Nat.le_trans (Nat.le_trans hbw.size hb3.size) hb4.size))⟩
              | succ g2 =>
                have hj : j < n := by omega
                have hj1 : j < L.length := by rw [HN.out.1]; exact hj
                have hj2 : j < M.length := by rw [HM.out.2.1]; exact hj
                obtain ⟨q1, rfl, c1, c2, c3⟩ := (TokAt.below (TokAt.below (TokAt.below HH.out.2 hb3) hb4) hbj) j hj1
                obtain ⟨q2, rfl, d1, d2, d3⟩ := (TokAt.below HM.out.2.2 hbj) j hj2
                obtain ⟨e1, e2⟩ := same_at HM.out.1 j hj1 hj2
                rw [e1] at d1
                rw [e2] at d2
                obtain ⟨u, hu⟩ : ∃ u, L[j] = u := ⟨_, rfl⟩
                rw [hu] at c1 c2 c3 d1 d2
                clear e1 e2 hu
                go_wp2
                go_quiet (fail)
                go_wp2
                go_roundg g2
                case measure => omega
                case rel => exact ⟨j + 1, by omega, by go_num, below_drewN hbj _⟩

theorem joins_any (s c : ByteArray) (w : World) (hsz : s.size ≤ maxLen) (_hc : c.size ≤ maxLen) (hS : SignsAt w) : Calls Tryd.prog 5 #[.string s, .string c] w (LawP w) := by
  rcases split_cases s.data.toList with ⟨Ts, h1, h2, h3, h4, h5⟩ | ⟨h5, p, e, h1, he, h2, L, h3⟩ | ⟨h5, h1⟩
  · by_cases hl : 500 < (Ts ++ [(⟨6, [], s.data.toList.length⟩ : T)]).length
    · exact joins_long s c w hS _ (.inl hl) ((split_ok s w hsz hS h1).mono fun e w' ⟨a, cap, h, _, hb⟩ => ⟨a, cap, h, hb⟩)
    · by_cases hc : 20 < c.size
      · exact joins_long s c w hS _ (.inr ⟨by omega, hc⟩) ((split_ok s w hsz hS h1).mono fun e w' ⟨a, cap, h, _, hb⟩ => ⟨a, cap, h, hb⟩)
      · refine joins_ok s c w hS _ _ rfl (by omega) (by omega) ?_ (fun sep hs hj => split_join hs h3 hj) (split_ok s w hsz hS h1)
        intro t ht
        rcases List.mem_append.1 ht with h | h
        · have := placed_len h2 t h
          omega
        · rw [List.mem_singleton] at h
          subst h
          simp
  · exact joins_bad s c w hS p e he (split_bad s w hsz hS h1)
  · exact joins_bad s c w hS 0 9 (.inr rfl) (split_bad s w hsz hS h1)

end Go.Proofs.YtdlcmnfjhnfjcaaDoor
