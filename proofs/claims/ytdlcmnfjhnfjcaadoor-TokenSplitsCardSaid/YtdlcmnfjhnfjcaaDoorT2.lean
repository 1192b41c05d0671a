/-
  The walks of the predicates on bytes, of both Keyword functions and of HasPrefix. No conditions.
-/
import Derived.Test.YtdlcmnfjhnfjcaaDoorRows
import Derived.Test.YtdlcmnfjhnfjcaaDoorT1
import Derived.WalkKit
import Derived.WalkSpells
import Derived.WalkLawsBesides
import Derived.Lib.Hide
namespace Go.Proofs.YtdlcmnfjhnfjcaaDoor
open Go.RowKit Tok

theorem ret_eq {a b : Value} (h : a = b) : Ending.returned a = .returned b := by rw [h]
theorem ret_bool {a b : Bool} (h : a = b) : Ending.returned (.bool a) = .returned (.bool b) := by rw [h]
theorem ret_int {k : IntKind} {a b : Int} (h : a = b) : Ending.returned (.int k a) = .returned (.int k b) := by rw [h]
theorem u8_lt (b : UInt8) : b.toNat < 256 := b.toNat_lt

/-- What a quiet function answers. -/
def Ans (w : World) (v : Value) (e : Ending) (w' : World) : Prop := e = .returned v ∧ w = w'

theorem isDigit_any (b : UInt8) (w : World) : Calls Tryd.prog 22 #[.int .u8 (b.toNat : Int)] w (Ans w (.bool (digB b))) := by
  by_cases h1 : 48 ≤ (b.toNat : Int)
  · by_cases h2 : (b.toNat : Int) ≤ 57
    · have hT : digB b = true := (digB_iff b).2 (by omega)
      go_enter Tryd.func22, Tryd.ntmps22
      go_wp2
      go_ret
      first | exact ⟨rfl, rfl⟩ | exact ⟨by rw [hT]; rfl, rfl⟩
    · have hF : digB b = false := by rw [← Bool.not_eq_true, digB_iff]; omega
      go_enter Tryd.func22, Tryd.ntmps22
      go_wp2
      go_ret
      first | exact ⟨rfl, rfl⟩ | exact ⟨by rw [hT]; rfl, rfl⟩
  · have hF : digB b = false := by rw [← Bool.not_eq_true, digB_iff]; omega
    go_enter Tryd.func22, Tryd.ntmps22
    go_wp2
    go_ret
    first | exact ⟨rfl, rfl⟩ | exact ⟨by rw [hT]; rfl, rfl⟩

theorem isUpper_any (b : UInt8) (w : World) : Calls Tryd.prog 24 #[.int .u8 (b.toNat : Int)] w (Ans w (.bool (uppB b))) := by
  by_cases h1 : 65 ≤ (b.toNat : Int)
  · by_cases h2 : (b.toNat : Int) ≤ 90
    · have hT : uppB b = true := (uppB_iff b).2 (by omega)
      go_enter Tryd.func24, Tryd.ntmps24
      go_wp2
      go_ret
      first | exact ⟨rfl, rfl⟩ | exact ⟨by rw [hT]; rfl, rfl⟩
    · have hF : uppB b = false := by rw [← Bool.not_eq_true, uppB_iff]; omega
      go_enter Tryd.func24, Tryd.ntmps24
      go_wp2
      go_ret
      first | exact ⟨rfl, rfl⟩ | exact ⟨by rw [hT]; rfl, rfl⟩
  · have hF : uppB b = false := by rw [← Bool.not_eq_true, uppB_iff]; omega
    go_enter Tryd.func24, Tryd.ntmps24
    go_wp2
    go_ret
    first | exact ⟨rfl, rfl⟩ | exact ⟨by rw [hT]; rfl, rfl⟩

theorem isLower_any (b : UInt8) (w : World) : Calls Tryd.prog 26 #[.int .u8 (b.toNat : Int)] w (Ans w (.bool (lowB b))) := by
  by_cases h1 : 97 ≤ (b.toNat : Int)
  · by_cases h2 : (b.toNat : Int) ≤ 122
    · have hT : lowB b = true := (lowB_iff b).2 (by omega)
      go_enter Tryd.func26, Tryd.ntmps26
      go_wp2
      go_ret
      first | exact ⟨rfl, rfl⟩ | exact ⟨by rw [hT]; rfl, rfl⟩
    · have hF : lowB b = false := by rw [← Bool.not_eq_true, lowB_iff]; omega
      go_enter Tryd.func26, Tryd.ntmps26
      go_wp2
      go_ret
      first | exact ⟨rfl, rfl⟩ | exact ⟨by rw [hT]; rfl, rfl⟩
  · have hF : lowB b = false := by rw [← Bool.not_eq_true, lowB_iff]; omega
    go_enter Tryd.func26, Tryd.ntmps26
    go_wp2
    go_ret
    first | exact ⟨rfl, rfl⟩ | exact ⟨by rw [hT]; rfl, rfl⟩

theorem refLower_any (b : UInt8) (w : World) : Calls Tryd.prog 16 #[.int .u8 (b.toNat : Int)] w (Ans w (.bool (lowB b))) := by
  by_cases h1 : 97 ≤ (b.toNat : Int)
  · by_cases h2 : (b.toNat : Int) ≤ 122
    · have hT : lowB b = true := (lowB_iff b).2 (by omega)
      go_enter Tryd.func16, Tryd.ntmps16
      go_wp2
      go_ret
      first | exact ⟨rfl, rfl⟩ | exact ⟨by rw [hT]; rfl, rfl⟩
    · have hF : lowB b = false := by rw [← Bool.not_eq_true, lowB_iff]; omega
      go_enter Tryd.func16, Tryd.ntmps16
      go_wp2
      go_ret
      first | exact ⟨rfl, rfl⟩ | exact ⟨by rw [hT]; rfl, rfl⟩
  · have hF : lowB b = false := by rw [← Bool.not_eq_true, lowB_iff]; omega
    go_enter Tryd.func16, Tryd.ntmps16
    go_wp2
    go_ret
    first | exact ⟨rfl, rfl⟩ | exact ⟨by rw [hT]; rfl, rfl⟩

theorem refUpper_any (b : UInt8) (w : World) : Calls Tryd.prog 17 #[.int .u8 (b.toNat : Int)] w (Ans w (.bool (uppB b))) := by
  by_cases h1 : 65 ≤ (b.toNat : Int)
  · by_cases h2 : (b.toNat : Int) ≤ 90
    · have hT : uppB b = true := (uppB_iff b).2 (by omega)
      go_enter Tryd.func17, Tryd.ntmps17
      go_wp2
      go_ret
      first | exact ⟨rfl, rfl⟩ | exact ⟨by rw [hT]; rfl, rfl⟩
    · have hF : uppB b = false := by rw [← Bool.not_eq_true, uppB_iff]; omega
      go_enter Tryd.func17, Tryd.ntmps17
      go_wp2
      go_ret
      first | exact ⟨rfl, rfl⟩ | exact ⟨by rw [hT]; rfl, rfl⟩
  · have hF : uppB b = false := by rw [← Bool.not_eq_true, uppB_iff]; omega
    go_enter Tryd.func17, Tryd.ntmps17
    go_wp2
    go_ret
    first | exact ⟨rfl, rfl⟩ | exact ⟨by rw [hT]; rfl, rfl⟩

theorem refDigit_any (b : UInt8) (w : World) : Calls Tryd.prog 18 #[.int .u8 (b.toNat : Int)] w (Ans w (.bool (digB b))) := by
  by_cases h1 : 48 ≤ (b.toNat : Int)
  · by_cases h2 : (b.toNat : Int) ≤ 57
    · have hT : digB b = true := (digB_iff b).2 (by omega)
      go_enter Tryd.func18, Tryd.ntmps18
      go_wp2
      go_ret
      first | exact ⟨rfl, rfl⟩ | exact ⟨by rw [hT]; rfl, rfl⟩
    · have hF : digB b = false := by rw [← Bool.not_eq_true, digB_iff]; omega
      go_enter Tryd.func18, Tryd.ntmps18
      go_wp2
      go_ret
      first | exact ⟨rfl, rfl⟩ | exact ⟨by rw [hT]; rfl, rfl⟩
  · have hF : digB b = false := by rw [← Bool.not_eq_true, digB_iff]; omega
    go_enter Tryd.func18, Tryd.ntmps18
    go_wp2
    go_ret
    first | exact ⟨rfl, rfl⟩ | exact ⟨by rw [hT]; rfl, rfl⟩

set_option maxHeartbeats 1000000 in
theorem isNameByte_any (b : UInt8) (w : World) : Calls Tryd.prog 25 #[.int .u8 (b.toNat : Int)] w (Ans w (.bool (nameB b))) := by
  obtain ⟨p1, h1⟩ : ∃ p, p = lowB b := ⟨_, rfl⟩
  obtain ⟨p2, h2⟩ : ∃ p, p = uppB b := ⟨_, rfl⟩
  obtain ⟨p3, h3⟩ : ∃ p, p = digB b := ⟨_, rfl⟩
  obtain ⟨p4, h4⟩ : ∃ p, p = nameB b := ⟨_, rfl⟩
  obtain ⟨p5, h5⟩ : ∃ p, ((b.toNat : Int) == 95) = p := ⟨_, rfl⟩
  have c1 := fun w => isLower_any b w
  have c2 := fun w => isUpper_any b w
  have c3 := fun w => isDigit_any b w
  rw [← h4]
  rw [← h1] at c1
  rw [← h2] at c2
  rw [← h3] at c3
  have e5 : decide (b.toNat = 95) = p5 := by rw [← h5, Bool.eq_iff_iff]; simp; omega
  have e4 : p4 = (p1 || p2 || p3 || p5) := by rw [h4, h1, h2, h3, ← e5]; rfl
  clear h1 h2 h3 h4 e5
  cases p1
  · cases p2
    · cases p3
      · cases p5
        all_goals
          obtain rfl := e4
          go_enter Tryd.func25, Tryd.ntmps25
          go_wp2_with (first | (go_at_call 26; refine (c1 _).mono ?_; rintro e w' ⟨rfl, rfl⟩) | (go_at_call 24; refine (c2 _).mono ?_; rintro e w' ⟨rfl, rfl⟩) | (go_at_call 22; refine (c3 _).mono ?_; rintro e w' ⟨rfl, rfl⟩))
          go_ret
          exact ⟨rfl, rfl⟩
      · obtain rfl := e4
        go_enter Tryd.func25, Tryd.ntmps25
        go_wp2_with (first | (go_at_call 26; refine (c1 _).mono ?_; rintro e w' ⟨rfl, rfl⟩) | (go_at_call 24; refine (c2 _).mono ?_; rintro e w' ⟨rfl, rfl⟩) | (go_at_call 22; refine (c3 _).mono ?_; rintro e w' ⟨rfl, rfl⟩))
        go_ret
        exact ⟨rfl, rfl⟩
    · obtain rfl := e4
      go_enter Tryd.func25, Tryd.ntmps25
      go_wp2_with (first | (go_at_call 26; refine (c1 _).mono ?_; rintro e w' ⟨rfl, rfl⟩) | (go_at_call 24; refine (c2 _).mono ?_; rintro e w' ⟨rfl, rfl⟩))
      go_ret
      exact ⟨rfl, rfl⟩
  · obtain rfl := e4
    go_enter Tryd.func25, Tryd.ntmps25
    go_wp2_with (go_at_call 26; refine (c1 _).mono ?_; rintro e w' ⟨rfl, rfl⟩)
    go_ret
    exact ⟨rfl, rfl⟩

end Go.Proofs.YtdlcmnfjhnfjcaaDoor
