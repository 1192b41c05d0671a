/-
  The walks of the program's Keyword and of the reference's: both answer whether a string is one of the 28 keywords. No conditions.
-/
import Derived.Test.YtdlcmnfjhnfjcaaRows
import Derived.WalkKit
import Derived.WalkSpells
import Derived.WalkLawsBesides
import Derived.Lib.Hide
namespace Go.Proofs.Ytdlcmnfjhnfjcaa
open Go.RowKit

def kws : List (List UInt8) := [[97, 114, 114, 97, 121], [98, 111, 111, 108], [99, 97, 116, 99, 104], [100, 97, 116, 97], [101, 108, 115, 101], [101, 110, 100], [102, 97, 108, 115, 101], [102, 110], [102, 117, 110], [103, 101, 116], [105, 102], [105, 110], [105, 110, 116], [108, 101, 110], [108, 101, 116], [109, 97, 116, 99, 104], [110, 101, 119], [114, 97, 105, 115, 101], [114, 101, 97, 100], [114, 101, 102], [115, 101, 116], [116, 104, 101, 110], [116, 105, 99, 107], [116, 114, 117, 101], [116, 114, 121], [117, 110, 105, 116], [119, 105, 116, 104], [119, 114, 105, 116, 101]]
def isKw (s : ByteArray) : Bool := kws.elem s.toList
theorem isKw_iff (s : ByteArray) : isKw s = true ↔ s.toList ∈ kws := by unfold isKw; exact List.elem_iff
def kwAt (k : Nat) : ByteArray := ⟨((kws[k]?).getD []).toArray⟩
theorem kwAt_toList (k : Nat) (h : k < 28) : (kwAt k).toList ∈ kws := by
  have : ∀ k, k < 28 → (kwAt k).toList ∈ kws := by decide +kernel
  exact this k h
theorem kw_of (s : ByteArray) (h : s.toList ∈ kws) : ∃ k, k < 28 ∧ (kwAt k).toList = s.toList := by
  obtain ⟨k, hk, e⟩ := List.mem_iff_getElem.mp h
  have h28 : k < 28 := hk
  have hl : ∀ k, k < 28 → (kwAt k).toList = (kws[k]?).getD [] := by decide +kernel
  refine ⟨k, h28, ?_⟩
  rw [hl k h28, List.getElem?_eq_getElem hk, ← e]; rfl

set_option maxRecDepth 100000 in
set_option maxHeartbeats 4000000 in
theorem keyword_any (s : ByteArray) (w : World) : Calls Try.prog 4 #[.string s] w fun e w' => e = .returned (.bool (isKw s)) ∧ w = w' := by
  go_enter Try.func4, Try.ntmps4
  go_wp2
  all_goals first
    | (exfalso; simp_all; done)
    | (have hT : isKw s = true := (isKw_iff s).2 (by simp_all [kws]; done)
       go_ret; exact ⟨by rw [hT]; rfl, rfl⟩)
    | (have hF : isKw s = false := by
         rw [← Bool.not_eq_true, isKw_iff]; simp_all [kws]; done
       go_ret; exact ⟨by rw [hF]; rfl, rfl⟩)

theorem kwAt_cells (w : World) (k : Nat) (h : k < 28) : (w.alloc (.cells #[.string ⟨#[97, 114, 114, 97, 121]⟩, .string ⟨#[98, 111, 111, 108]⟩, .string ⟨#[99, 97, 116, 99, 104]⟩, .string ⟨#[100, 97, 116, 97]⟩, .string ⟨#[101, 108, 115, 101]⟩, .string ⟨#[101, 110, 100]⟩, .string ⟨#[102, 97, 108, 115, 101]⟩, .string ⟨#[102, 110]⟩, .string ⟨#[102, 117, 110]⟩, .string ⟨#[103, 101, 116]⟩, .string ⟨#[105, 102]⟩, .string ⟨#[105, 110]⟩, .string ⟨#[105, 110, 116]⟩, .string ⟨#[108, 101, 110]⟩, .string ⟨#[108, 101, 116]⟩, .string ⟨#[109, 97, 116, 99, 104]⟩, .string ⟨#[110, 101, 119]⟩, .string ⟨#[114, 97, 105, 115, 101]⟩, .string ⟨#[114, 101, 97, 100]⟩, .string ⟨#[114, 101, 102]⟩, .string ⟨#[115, 101, 116]⟩, .string ⟨#[116, 104, 101, 110]⟩, .string ⟨#[116, 105, 99, 107]⟩, .string ⟨#[116, 114, 117, 101]⟩, .string ⟨#[116, 114, 121]⟩, .string ⟨#[117, 110, 105, 116]⟩, .string ⟨#[119, 105, 116, 104]⟩, .string ⟨#[119, 114, 105, 116, 101]⟩] 9)).cell? ⟨w.heap.size, k, none⟩ = some (.string (kwAt k)) := by
  rw [World.cell?_alloc_new]
  have : ∀ k, k < 28 → (#[.string ⟨#[97, 114, 114, 97, 121]⟩, .string ⟨#[98, 111, 111, 108]⟩, .string ⟨#[99, 97, 116, 99, 104]⟩, .string ⟨#[100, 97, 116, 97]⟩, .string ⟨#[101, 108, 115, 101]⟩, .string ⟨#[101, 110, 100]⟩, .string ⟨#[102, 97, 108, 115, 101]⟩, .string ⟨#[102, 110]⟩, .string ⟨#[102, 117, 110]⟩, .string ⟨#[103, 101, 116]⟩, .string ⟨#[105, 102]⟩, .string ⟨#[105, 110]⟩, .string ⟨#[105, 110, 116]⟩, .string ⟨#[108, 101, 110]⟩, .string ⟨#[108, 101, 116]⟩, .string ⟨#[109, 97, 116, 99, 104]⟩, .string ⟨#[110, 101, 119]⟩, .string ⟨#[114, 97, 105, 115, 101]⟩, .string ⟨#[114, 101, 97, 100]⟩, .string ⟨#[114, 101, 102]⟩, .string ⟨#[115, 101, 116]⟩, .string ⟨#[116, 104, 101, 110]⟩, .string ⟨#[116, 105, 99, 107]⟩, .string ⟨#[116, 114, 117, 101]⟩, .string ⟨#[116, 114, 121]⟩, .string ⟨#[117, 110, 105, 116]⟩, .string ⟨#[119, 105, 116, 104]⟩, .string ⟨#[119, 114, 105, 116, 101]⟩] : Array Value)[k]? = some (.string (kwAt k)) := by
    intro k hk
    match k, hk with
    | 0, _ => rfl
    | 1, _ => rfl
    | 2, _ => rfl
    | 3, _ => rfl
    | 4, _ => rfl
    | 5, _ => rfl
    | 6, _ => rfl
    | 7, _ => rfl
    | 8, _ => rfl
    | 9, _ => rfl
    | 10, _ => rfl
    | 11, _ => rfl
    | 12, _ => rfl
    | 13, _ => rfl
    | 14, _ => rfl
    | 15, _ => rfl
    | 16, _ => rfl
    | 17, _ => rfl
    | 18, _ => rfl
    | 19, _ => rfl
    | 20, _ => rfl
    | 21, _ => rfl
    | 22, _ => rfl
    | 23, _ => rfl
    | 24, _ => rfl
    | 25, _ => rfl
    | 26, _ => rfl
    | 27, _ => rfl
    | n + 28, h => omega
  exact this k h

set_option maxRecDepth 100000 in
set_option maxHeartbeats 4000000 in
theorem refKeyword_any (s : ByteArray) (w : World) : Calls Try.prog 5 #[.string s] w fun e w' => e = .returned (.bool (isKw s)) ∧ Below w.heap.size w w' := by
  go_enter Try.func5, Try.ntmps5
  go_wp2
  go_loop [4] (fun i => ∃ k : Nat, k ≤ 28 ∧ i = .int .i64 k ∧ ∀ j, j < k → (kwAt j).toList ≠ s.toList) (fun i => 28 - (intOf i).toNat)
  case atStart => exact ⟨0, by omega, rfl, fun j hj => by omega⟩
  case round =>
    obtain ⟨k, hk, rfl, hn⟩ := hrel
    have HN := Lib.hid hn
    clear hn
    by_cases hlt : k < 28
    · have hc := kwAt_cells w k hlt
      by_cases he : ((kwAt k).toList == s.toList) = true
      · go_wp2
        have hT : isKw s = true := (isKw_iff s).2 (by rw [← eq_of_beq he]; exact kwAt_toList k hlt)
        go_ret
        exact ⟨by rw [hT]; rfl, (Below.refl _ _).alloc (Nat.le_refl _) _⟩
      · have he : ((kwAt k).toList == s.toList) = false := by simpa using he
        go_wp2
        go_round
        case rel => exact ⟨k + 1, by omega, by go_num, fun j hj => by
          rcases Nat.lt_or_eq_of_le (Nat.le_of_lt_succ hj) with h | h
          · exact HN.out j h
          · subst h; simpa using he⟩
        case measure => simp [intOf]; omega
    · go_wp2
      have hF : isKw s = false := by
        rw [← Bool.not_eq_true, isKw_iff]
        intro hm
        obtain ⟨j, hj, e⟩ := kw_of s hm
        exact HN.out j (by omega) e
      go_ret
      exact ⟨by rw [hF]; rfl, (Below.refl _ _).alloc (Nat.le_refl _) _⟩

end Go.Proofs.Ytdlcmnfjhnfjcaa
