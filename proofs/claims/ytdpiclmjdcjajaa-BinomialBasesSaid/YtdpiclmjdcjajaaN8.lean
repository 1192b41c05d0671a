/-
  The walk of giveBack: a stretch of an owned row, limbs below the base.
-/
import Derived.Test.YtdpiclmjdcjajaaN7
import Derived.Test.YtdpiclmjdcjajaaNum3
namespace Go.Proofs.Ytdpiclmjdcjajaa
open Go.RowKit Num

/-- The slice does not lie in block g. -/
def Apart (g : Nat) (v : Value) : Prop := ∀ ad n c, v = .slice (some ad) n c → ad.block ≠ g

theorem Lim.grown {w w' : World} {v : Value} {l : List Nat} {g : Nat} (h : Lim w v l) (hg : w.grownBy w' (some g)) (ha : Apart g v) : Lim w' v l := by
  obtain ⟨a, cap, rfl, h1, h2, h3, h4⟩ := h
  refine ⟨a, cap, rfl, h1, h2, h3, fun i hi => ?_⟩
  obtain ⟨b, o, rfl, hc⟩ := h4 i hi
  exact ⟨b, o, rfl, hg.cell hc (by simpa using ha _ _ _ rfl)⟩

theorem grown_trans {a b c : World} {row : Option Nat} (h : a.grownBy b row) (k : b.grownBy c row) : a.grownBy c row :=
  ⟨k.os.trans h.os, k.tape.trans h.tape, k.output.trans h.output, Nat.le_trans h.size k.size, fun i hi hn => (k.block i (Nat.lt_of_lt_of_le hi h.size) hn).trans (h.block i hi hn)⟩
theorem grown_drewN {a w : World} {row : Option Nat} (h : a.grownBy w row) (n : Nat) : a.grownBy (w.drewN n) row := ⟨h.os, h.tape, h.output, h.size, h.block⟩
theorem grown_setCell {a w : World} {g : Nat} (h : a.grownBy w (some g)) {o : Nat} (u : Value) : a.grownBy (w.setCell ⟨g, o, none⟩ u) (some g) :=
  grown_trans h ⟨rfl, rfl, rfl, by simp [World.setCell], fun k _ hn => Below.heap_setCell _ _ _ _ (fun e => hn (by rw [e]))⟩
theorem grown_below {a w : World} {g B : Nat} (h : a.grownBy w (some g)) (hB : B ≤ a.heap.size) (hg : B ≤ g) : Below B a w :=
  (Below.refl _ _).grown h hB (fun k hk => by cases hk; exact hg)

def GiveP (B g N : Nat) (pre X post D : List Nat) (w : World) (e : Ending) (w' : World) : Prop :=
  e = .returned (.tuple #[]) ∧ ∃ (X' : List Nat) (c : Nat), Own w' B g N (pre ++ X' ++ post) ∧ X'.length = X.length ∧ Lo X' ∧ (∀ i, D.length ≤ i → nth X' i = nth X i) ∧ c ≤ 1 ∧
    val (X'.take D.length) + pw D.length * c = val (X.take D.length) + val D ∧ w.grownBy w' (some g)

set_option maxHeartbeats 1000000 in
theorem giveBack_any (B g N o m c : Nat) (pre X post D : List Nat) (v : Value) (w : World) (ho : pre.length = o) (hown : Own w B g N (pre ++ X ++ post)) (hd : Lim w v D) (hap : Apart g v) (xlo : Lo X) (dlo : Lo D)
    (hm : X.length = m) (hlen : D.length < m) : Calls Try.prog 139 #[.slice (some ⟨g, o, none⟩) m c, v] w (GiveP B g N pre X post D w) := by
  obtain ⟨a, cap, rfl, h1, h2, h3, h4⟩ := hd
  have hbd := hown.len
  simp only [List.length_append] at hbd
  have hod : o + D.length < N := by omega
  have HB := Lib.hid (And.intro hbd (And.intro ho hm))
  clear hbd ho hm
  go_enter Try.func139, Try.ntmps139
  go_wp2
  go_loopw [4, 5, 6, 9] (fun s s5 s6 i wr => ∃ (k q : Nat) (Y : List Nat), k ≤ D.length ∧ i = .int .i64 k ∧ s = .int .u32 q ∧ q ≤ 1 ∧ Own wr B g N (pre ++ Y ++ post) ∧ Y.length = X.length ∧ Lo Y ∧ (∀ i, k ≤ i → nth Y i = nth X i) ∧
      val (Y.take k) + pw k * q = val (X.take k) + val (D.take k) ∧ w.grownBy wr (some g)) (fun _ _ _ i _ => D.length - (intOf i).toNat)
  case atStart => exact ⟨0, 0, X, Nat.zero_le _, rfl, rfl, by omega, hown, rfl, xlo, fun _ _ => rfl, by simp [val], World.grownBy.refl _ _⟩
  case round =>
    obtain ⟨k, q, Y, hk, rfl, rfl, hq, hownY, hly, ylo, hz, hval, hgr⟩ := hrel
    by_cases hlt : k < D.length
    · obtain ⟨b, od, rfl, hcell⟩ := h4 k hlt
      have hcell := hgr.cell hcell (by simpa using hap _ _ _ rfl)
      obtain ⟨hbd, ho, hm⟩ := HB.out
      have hold := hownY.cell (o + k) (by omega)
      have hfr := hownY.frozen (o + k)
      rw [← ho, nth_mid _ _ _ _ (by omega), ho] at hold
      have HS := Lib.hid (give_step Y X D k q (by omega) hval (hz k (Nat.le_refl _)))
      have hp := ylo k
      have hr := dlo k
      have H := Lib.hid (And.intro h3 (And.intro h4 (And.intro hownY (And.intro hly (And.intro ylo (And.intro hz hgr))))))
      clear h3 h4 hownY hly ylo hz hval hgr hbd ho hm hown xlo dlo hap
      go_wp2
      go_quiet (fail)
      go_wp2
      go_roundw
      case rel =>
        obtain ⟨h3, h4, hownY, hly, ylo, hz, hgr⟩ := H.out
        obtain ⟨hbd, ho, hm⟩ := HB.out
        refine ⟨k + 1, (nth Y k + nth D k + q) / 1000000000, Y.set k ((nth Y k + nth D k + q) % 1000000000), by omega, by go_num, by go_num, by omega, ?_, by simpa using hly, lo_set_drop (by omega) ylo (by omega), ?_, HS.out, ?_⟩
        · rw [← set_mid _ _ _ _ _ (by omega), ho]
          exact hownY.store' (o + k) _ _ (by simp) (by omega)
        · intro i hi
          rw [nth_set _ _ _ _ (by omega), if_neg (by omega)]
          exact hz i (by omega)
        · exact grown_drewN (grown_setCell hgr _) _
      case measure => simp [intOf]; omega
    · obtain rfl : D.length = k := by omega
      have H := Lib.hid (And.intro h3 (And.intro h4 (And.intro hownY (And.intro hly (And.intro ylo (And.intro hz (And.intro hval hgr)))))))
      clear h3 h4 hownY hly ylo hz hval hgr hown xlo dlo hap
      go_wp2
      go_end0
      obtain ⟨h3, h4, hownY, hly, ylo, hz, hval, hgr⟩ := H.out
      exact ⟨rfl, Y, q, hownY, hly, ylo, hz, hq, by rw [List.take_length (l := D)] at hval; exact hval, hgr⟩

end Go.Proofs.Ytdpiclmjdcjajaa
