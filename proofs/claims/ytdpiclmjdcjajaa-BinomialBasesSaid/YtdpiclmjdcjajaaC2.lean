/-
  The walk of the law RationalField. No conditions.
-/
import Derived.Test.YtdpiclmjdcjajaaKeep
namespace Go.Proofs.Ytdpiclmjdcjajaa
open Go.RowKit Num

theorem box_of {W : World} {B g t : Nat} {neg : Bool} {an ad : Option Addr} {n cn m cd : Nat} {q : Rat} (hb : BoxV W B g t [.bool neg, .slice an n cn, .slice ad m cd]) (hv : RatV W neg an n cn ad m cd 8 q) : (Kd.box 9 q).holds W (.pointer (some ⟨g, 0, none⟩)) := by
  obtain ⟨⟨c0, c1, c2⟩, _⟩ := hb.three
  exact ⟨g, _, _, _, rfl, c0, c1, c2, hv.a.le (by omega), hv.sz⟩
theorem boxC_of {W : World} {B g t k : Nat} {a b c : Value} {q : Rat} (hb : BoxV W B g t [a, b, c]) (hv : RatC W (.agg #[a, b, c]) q) (hs : Sz q k) : (Kd.boxC k q).holds W (.pointer (some ⟨g, 0, none⟩)) := by
  obtain ⟨⟨c0, c1, c2⟩, _⟩ := hb.three
  exact ⟨g, _, _, _, rfl, c0, c1, c2, hv, hs⟩
theorem same_iff {p q : Rat} (h : p = q) : true = true ↔ p = q := ⟨fun _ => h, fun _ => rfl⟩
theorem field_div {x y : Rat} (hy : y ≠ 0) : x / y * y = x := Rat.div_mul_cancel hy

/-- What the slots hold in the test of the quotient. -/
def fieldQ (x y : Rat) : Tmp → Kd := fun t => ([.any, .any, .any, .box 9 x, .box 9 y, .any, .any, .any, .any, .boxC 19 (x / y), .val (.bool true), .any, .any, .any, .any, .any, .any, .any, .any, .any, .any, .any, .any, .any, .any, .any, .any, .any, .any, .any, .any, .any, .any, .any, .any, .val (.bool true), .val (.bool false), .val (.bool false), .ratC 19 (x / y), .rat 9 y, .ratC 29 ((x / y) * y), .rat 9 x, .ratC 9 x, .val (.bool true), .val (.bool false), .val (.bool false)] : List Kd).getD t .any

/-- What the slots hold in the last line of the law. -/
def fieldL (x y z : Rat) : Tmp → Kd := fun t => ([.any, .any, .any, .box 9 x, .box 9 y, .box 9 z, .val (.bool true), .boxC 1 0, .boxC 1 1, .any, .any, .any, .any, .any, .any, .any, .any, .any, .any, .any, .any, .any, .any, .any, .any, .any, .any, .any, .any, .any, .any, .any, .any, .any, .any, .any, .any, .any, .any, .any, .any, .any, .any, .any, .any, .any, .rat 9 x, .rat 9 y, .ratC 19 (x + y), .rat 9 z, .ratC 29 ((x + y) + z), .rat 9 x, .rat 9 y, .rat 9 z, .ratC 19 (y + z), .ratC 29 (x + (y + z)), .val (.bool true), .val (.bool true), .rat 9 x, .rat 9 y, .ratC 19 (x * y), .rat 9 z, .ratC 29 ((x * y) * z), .rat 9 x, .rat 9 y, .rat 9 z, .ratC 19 (y * z), .ratC 29 (x * (y * z)), .val (.bool true), .val (.bool true), .val (.bool true), .rat 9 x, .rat 9 y, .ratC 19 (x + y), .rat 9 y, .rat 9 x, .ratC 19 (y + x), .val (.bool true), .val (.bool true), .val (.bool true), .rat 9 x, .rat 9 y, .ratC 19 (x * y), .rat 9 y, .rat 9 x, .ratC 19 (y * x), .val (.bool true), .val (.bool true), .val (.bool true), .rat 9 x, .rat 9 y, .rat 9 z, .ratC 19 (y + z), .ratC 29 (x * (y + z)), .rat 9 x, .rat 9 y, .ratC 19 (x * y), .rat 9 x, .rat 9 z, .ratC 19 (x * z), .ratC 39 ((x * y) + (x * z)), .val (.bool true), .val (.bool true), .val (.bool true), .rat 9 x, .rat 9 x, .ratC 19 (x - x), .ratC 1 0, .val (.bool true), .val (.bool true), .val (.bool true), .rat 9 x, .ratC 1 0, .ratC 11 (x + 0), .rat 9 x, .ratC 9 x, .val (.bool true), .val (.bool true), .val (.bool true), .rat 9 x, .ratC 1 1, .ratC 11 (x * 1), .rat 9 x, .ratC 9 x, .val (.bool true), .val (.bool true), .val (.bool true), .val (.bool true), .val (.bool true)] : List Kd).getD t .any

theorem quo_zero : quo 0 1 = 0 := rat_zero_num _ _
theorem quo_one : quo 1 1 = 1 := by rw [quo_mk (by omega)]; rfl

end Go.Proofs.Ytdpiclmjdcjajaa
