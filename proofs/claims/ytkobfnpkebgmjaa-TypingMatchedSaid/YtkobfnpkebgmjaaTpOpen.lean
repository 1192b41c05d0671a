/-
  An argument of type api.Type, []api.Type, []api.Data is a tree, a list of trees, a list of declarations. No conditions.
-/
import Derived.Test.YtkobfnpkebgmjaaTypes
import Derived.Test.YtkobfnpkebgmjaaProg
namespace Go.Proofs.Ytkobfnpkebgmjaa
open Go.ChangeShapes Go.Deep

/-- A constructor; a declaration. -/
structure Con where
  name : ByteArray
  args : List Tp
structure Dec where
  name : ByteArray
  vars : Int
  cons : List Con
instance : Inhabited Con := ⟨⟨default, []⟩⟩
instance : Inhabited Dec := ⟨⟨default, 0, []⟩⟩
def ConC (c : Addr → Option Value) (n : Nat) (cs : List Value) (x : Con) : Prop := ∃ v, cs = [.string x.name, v] ∧ x.name.size ≤ 9223372036854775807 ∧ RowC c 3 (TpC c n) v x.args
def DecC (c : Addr → Option Value) (n : Nat) (cs : List Value) (x : Dec) : Prop := ∃ v, cs = [.string x.name, .int .i64 x.vars, v] ∧ x.name.size ≤ 9223372036854775807 ∧ i64 x.vars ∧ RowC c 2 (ConC c n) v x.cons
def TpsC (c : Addr → Option Value) (n : Nat) (v : Value) (l : List Tp) : Prop := RowC c 3 (TpC c n) v l
def DecsC (c : Addr → Option Value) (n : Nat) (v : Value) (l : List Dec) : Prop := RowC c 3 (DecC c n) v l
theorem ConC.kept {c c' : Addr → Option Value} (hc : ∀ a u, c a = some u → c' a = some u) {n : Nat} {cs : List Value} {x : Con} (h : ConC c n cs x) : ConC c' n cs x := by
  obtain ⟨v, e, h1, h2⟩ := h
  exact ⟨v, e, h1, h2.mono hc fun _ _ _ h => h.kept hc⟩
theorem DecC.kept {c c' : Addr → Option Value} (hc : ∀ a u, c a = some u → c' a = some u) {n : Nat} {cs : List Value} {x : Dec} (h : DecC c n cs x) : DecC c' n cs x := by
  obtain ⟨v, e, h1, h2, h3⟩ := h
  exact ⟨v, e, h1, h2, h3.mono hc fun _ _ _ h => h.kept hc⟩
theorem TpsC.kept {c c' : Addr → Option Value} (hc : ∀ a u, c a = some u → c' a = some u) {n : Nat} {v : Value} {l : List Tp} (h : TpsC c n v l) : TpsC c' n v l := RowC.mono h hc fun _ _ _ h => h.kept hc
theorem TpsC.le {c : Addr → Option Value} {n m : Nat} {v : Value} {l : List Tp} (h : TpsC c n v l) (hm : n ≤ m) : TpsC c m v l := RowC.mono h (fun _ _ h => h) fun _ _ _ h => h.le hm
theorem DecsC.kept {c c' : Addr → Option Value} (hc : ∀ a u, c a = some u → c' a = some u) {n : Nat} {v : Value} {l : List Dec} (h : DecsC c n v l) : DecsC c' n v l := RowC.mono h hc fun _ _ _ h => h.kept hc

section
variable {H : Type} {enc : TypeId × Value → H} {w : World} {sp : Nat → Bool} {held : Bool}
theorem c_int : Try.prog.cellsOf 3 = 1 := by kernel_rfl
theorem c_str : Try.prog.cellsOf 9 = 1 := by kernel_rfl
theorem c_tps : Try.prog.cellsOf 23 = 1 := by kernel_rfl
theorem c_tp : Try.prog.cellsOf 25 = 3 := by kernel_rfl
theorem c_con : Try.prog.cellsOf 31 = 2 := by kernel_rfl
theorem c_cons : Try.prog.cellsOf 32 = 1 := by kernel_rfl
theorem c_dec : Try.prog.cellsOf 34 = 3 := by kernel_rfl
theorem wf_i64 {n : Int} (h : (Lit.int .i64 n).wf = true) : i64 n := by
  have e1 : IntKind.i64.min = -9223372036854775808 := rfl
  have e2 : IntKind.i64.max = 9223372036854775807 := rfl
  simp [Lit.wf] at h
  unfold i64
  omega
theorem str_open {fuel : Nat} {v : Value} {x : DataW H × List MemPlace} (h : DataW.trod enc Try.prog w 0 sp held fuel 9 [v] = some x) : ∃ s : ByteArray, v = .string s ∧ s.size ≤ 9223372036854775807 := by
  obtain ⟨s, hs, _, hl⟩ := DataW.trod_string Try.underlying9 h
  exact ⟨s, by simpa using hs, by unfold maxLen at hl; omega⟩
set_option maxRecDepth 100000 in
theorem tp_open : ∀ (fuel : Nat) (cs : List Value) (x : DataW H × List MemPlace), DataW.trod enc Try.prog w 0 sp held fuel 25 cs = some x → ∃ t, TpC w.cell? fuel cs t := by
  intro fuel
  induction fuel using Nat.strongRecOn with
  | ind fuel ih =>
    intro cs x h
    obtain ⟨xs, n, hn, _, hcl, hlen, hf⟩ := DataW.trod_struct Try.underlying25 h
    subst hn
    rw [c_tp] at hcl
    match cs, hcl, xs, hlen with
    | [v0, v1, v2], _, [y0, y1, y2], _ =>
      have h0 : DataW.trod enc Try.prog w 0 sp held n 3 [v0] = some y0 := by simpa [c_int] using hf 0 _ rfl
      have h1 : DataW.trod enc Try.prog w 0 sp held n 3 [v1] = some y1 := by simpa [c_int] using hf 1 _ rfl
      have h2 : DataW.trod enc Try.prog w 0 sp held n 23 [v2] = some y2 := by simpa [c_tps] using hf 2 _ rfl
      obtain ⟨k, hk, _, hwf⟩ := DataW.trod_int Try.underlying3 h0
      obtain ⟨u, hu, _, hwf2⟩ := DataW.trod_int Try.underlying3 h1
      obtain ⟨l, hl⟩ := row_open (R := TpC w.cell? n) Try.underlying23 c_tp (by omega) h2 fun m hm cs y hy => by
        obtain ⟨t, ht⟩ := ih m (by omega) cs y hy
        exact ⟨t, ht.le (by omega)⟩
      obtain rfl : v0 = .int .i64 k := by simpa using hk
      obtain rfl : v1 = .int .i64 u := by simpa using hu
      exact ⟨.mk k u l, v2, rfl, wf_i64 hwf, wf_i64 hwf2, hl⟩
theorem tps_open {fuel : Nat} {v : Value} {x : DataW H × List MemPlace} (h : DataW.trod enc Try.prog w 0 sp held fuel 23 [v] = some x) : ∃ n l, TpsC w.cell? n v l := by
  obtain ⟨l, hl⟩ := row_open (R := TpC w.cell? fuel) Try.underlying23 c_tp (by omega) h fun m hm cs y hy => by
    obtain ⟨t, ht⟩ := tp_open m cs y hy
    exact ⟨t, ht.le (by omega)⟩
  exact ⟨fuel, l, hl⟩
set_option maxRecDepth 100000 in
theorem decs_open {fuel : Nat} {v : Value} {x : DataW H × List MemPlace} (h : DataW.trod enc Try.prog w 0 sp held fuel 22 [v] = some x) : ∃ n l, DecsC w.cell? n v l := by
  obtain ⟨l, hl⟩ := row_open (R := DecC w.cell? fuel) Try.underlying22 c_dec (by omega) h fun m hm cs y hy => by
    obtain ⟨xs, n', hn', _, hcl, hlen, hf⟩ := DataW.trod_struct Try.underlying34 hy
    rw [c_dec] at hcl
    match cs, hcl, xs, hlen with
    | [u0, u1, u2], _, [z0, z1, z2], _ =>
      have g0 : DataW.trod enc Try.prog w 0 sp held n' 9 [u0] = some z0 := by simpa [c_str] using hf 0 _ rfl
      have g1 : DataW.trod enc Try.prog w 0 sp held n' 3 [u1] = some z1 := by simpa [c_int] using hf 1 _ rfl
      have g2 : DataW.trod enc Try.prog w 0 sp held n' 32 [u2] = some z2 := by simpa [c_cons] using hf 2 _ rfl
      obtain ⟨s, rfl, hs⟩ := str_open g0
      obtain ⟨k, hk, _, hwf⟩ := DataW.trod_int Try.underlying3 g1
      obtain rfl : u1 = .int .i64 k := by simpa using hk
      obtain ⟨cons, hcons⟩ := row_open (R := ConC w.cell? fuel) Try.underlying32 c_con (by omega) g2 fun m' hm' cs y hy => by
        obtain ⟨xs, n'', hn'', _, hcl, hlen, hf⟩ := DataW.trod_struct Try.underlying31 hy
        rw [c_con] at hcl
        match cs, hcl, xs, hlen with
        | [r0, r1], _, [q0, q1], _ =>
          have k0 : DataW.trod enc Try.prog w 0 sp held n'' 9 [r0] = some q0 := by simpa [c_str] using hf 0 _ rfl
          have k1 : DataW.trod enc Try.prog w 0 sp held n'' 23 [r1] = some q1 := by simpa [c_tps] using hf 1 _ rfl
          obtain ⟨s, rfl, hs⟩ := str_open k0
          obtain ⟨n3, l, hl⟩ : ∃ n3 l, n3 ≤ fuel ∧ TpsC w.cell? n3 r1 l := by
            obtain ⟨l, hl⟩ := row_open (R := TpC w.cell? n'') Try.underlying23 c_tp (by omega) k1 fun m'' hm'' cs y hy => by
              obtain ⟨t, ht⟩ := tp_open m'' cs y hy
              exact ⟨t, ht.le (by omega)⟩
            exact ⟨n'', l, by omega, hl⟩
          exact ⟨⟨s, l⟩, r1, rfl, hs, hl.2.le hl.1⟩
      exact ⟨⟨s, k, cons⟩, u2, rfl, hs, wf_i64 hwf, hcons⟩
  exact ⟨fuel, l, hl⟩
end
end Go.Proofs.Ytkobfnpkebgmjaa
