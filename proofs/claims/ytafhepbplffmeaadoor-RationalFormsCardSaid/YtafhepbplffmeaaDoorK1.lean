/-
  What each card's frame needs: the table of powers of ten as a row's condition lays it, and a world for the witness. No conditions but those of each lemma.
-/
import Derived.Test.YtafhepbplffmeaaDoorCards
import Derived.Test.YtafhepbplffmeaaDoorTie
import Derived.Test.YtafhepbplffmeaaDoorOpen
import Derived.Test.YtafhepbplffmeaaDoorTxt
import Derived.ProofKit
import Derived.OpenShut
import Derived.ShutString
import Derived.ChangeOld
import Derived.Lib.SmallJoins
import Derived.Deep.DeepHandedRow
import Derived.Lib.LaidTab
import Derived.Stop.LaidErr
namespace Go.Proofs.YtafhepbplffmeaaDoor
open Go.ChangeShapes Go.WideShapes Go.ChangeAt Go.RowKit

theorem gTab : Tryd.prog.globalNamed "internal/strconv.uint64pow10" = some 1 := by kernel_rfl
theorem gTabType : (Tryd.prog.globals[1]?).map (·.type) = some 113 := by kernel_rfl
theorem laid_is {H : Type} : (Rows.laid_internal_strconv_uint64pow10 : DataW H) = Lib.tabData .u64 Lib.pow10Tab := rfl
theorem tab_of {W : World} {x y : String × DataW Unit} (h : laidMet Tryd.prog [x, y, ("internal/strconv.uint64pow10", Rows.laid_internal_strconv_uint64pow10)] W) : TabP W.heap.size W :=
  Lib.tabBelow_of_tabIs (Lib.tabIs_of_head gTab gTabType Tryd.underlying113 Tryd.underlying65 (by kernel_rfl) (by kernel_rfl) (laidMet.tail (laidMet.tail h)))

def litV {H : Type} : DataW H → Value
  | .lit (.int k z) => .int k z
  | _ => undef
def tabCells {H : Type} : DataW H → Array Value
  | .agg l => (l.map litV).toArray
  | _ => #[]
def layAs (cs : Array Value) : Obj → Obj
  | .cells _ t frozen => .cells cs t frozen
  | o => o
/-- A world for the witness: the settled one, each table holding what its initialiser lays. -/
noncomputable def laidWorld (os : Os) : World :=
  { World.holding Tryd.prog os ⟨#[], #[], []⟩ with heap := (((World.holding Tryd.prog os ⟨#[], #[], []⟩).heap.modify 1 (layAs (tabCells (H := Unit) Rows.laid_internal_strconv_uint64pow10))).modify 2 (layAs (tabCells (H := Unit) Rows.laid_math_bits_deBruijn32tab))).modify 3 (layAs (tabCells (H := Unit) Rows.laid_math_bits_deBruijn64tab)) }

end Go.Proofs.YtafhepbplffmeaaDoor
