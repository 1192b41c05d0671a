/-
  NARROWER THAN 'FOR EVERY INPUT', by the rows' own cells (each row's printed sentence says how): TokenSplits: laid · TokenPlaces: laid · TokenJoins: laid · TokenErrors: laid.
  DERIVED. THE GIVEN ROWS OF THIS SEAT. 4 by the template 'for every input the law returns true; each argument reads behind the call as it read before'; 0 by the template 'total and deterministic' (their statements: YtdlcmnfjhnfjcaaDoorTotals.lean).
  GIVEN WITH THE SEED: the statements are not yours to turn. If you find one false, say at which input.
  Laid BY PROGRAM, IN A SANDBOX (cutbox-rows.mjs): the forced cells as the released guide's own fill.sh prints them over the translation cc432df0c626679c… (all of the seat's roots in one cut). By AI agents, Wed Nov 11 2026. No macro, syntax, notation, axiom, sorry.
-/
import Derived.Test.YtdlcmnfjhnfjcaaDoorChecked
import GoSem.Claim
import GoSem.ClaimJoined
import GoSem.ClaimMapViews
import Derived.JoinedTies
import Derived.KernelRfl
namespace Go.Proofs.YtdlcmnfjhnfjcaaDoor
/- THE CELL 'sum', in the pinned program and in every row, IS THE sha256 OF THE DUMP (.gsa) THAT YtdlcmnfjhnfjcaaDoorProg.lean LOADS. Nothing in Lean hashes anything: it is a label: what it is worth is what the hold of that sum in a sandbox is worth. -/
noncomputable def Tryd.pinned : Pinned := { name := "ytdlcmnfjhnfjcaadoor", sum := "cc432df0c626679c27f6a6f67b3867fc577eeb2a1feae41ff8c66202e2433997", checked := Tryd.checked }
namespace Rows
def none {H : Type} : Left H := { results := [], args := [] }

/- WHAT THE LISTED PACKAGE-LEVEL VARIABLES READ AS WHEN THE CALL BEGINS. Each datum BY PROGRAM (the guide's laid-datum.mjs) off the statement by which the dump's own 'gosem.cut.vars' lays the variable. In a bare row this is a premise. The card (YtdlcmnfjhnfjcaaDoorCards.lean) ties it to the program's text. -/
def laid_amortcost_token_signs {H : Type} : DataW H := .agg [.lit (.string [45, 62]), .lit (.string [60, 61]), .lit (.string [61, 61]), .lit (.string [40]), .lit (.string [41]), .lit (.string [44]), .lit (.string [61]), .lit (.string [124]), .lit (.string [43]), .lit (.string [45]), .lit (.string [42]), .lit (.string [47]), .lit (.string [37]), .lit (.string [60]), .lit (.string [59]), .lit (.string [95])]

/-- 'amortcostlaw03.TokenSplits': WHATEVER THE INPUT: true; the input reads as it did. -/
def tokenSplitsSpec : ChangeSpec := { name := "tokenSplits", fn := fun _ => fun
  | [d] => { results := [.lit (.bool true)], args := [d] }
  | _ => none }
def tokenSplitsRow : OpenClaim := { program := "ytdlcmnfjhnfjcaadoor", sum := "cc432df0c626679c27f6a6f67b3867fc577eeb2a1feae41ff8c66202e2433997", func := "amortcost/amortcostlaw03.TokenSplits", spec := "tokenSplits", unfollowed := true, recurses := true, named := ["amortcost/token.signs"], apart := false, laid := [("amortcost/token.signs", laid_amortcost_token_signs)] }
def TokenSplitsSaid : Prop := tokenSplitsRow.holds Tryd.pinned (OpenSpec.ofChange tokenSplitsSpec)

/-- ITS FALSE NEIGHBOUR: 'it returns false'. Refute it at one input. -/
def tokenSplitsWrong : ChangeSpec := { name := "tokenSplits", fn := fun _ => fun
  | [d] => { results := [.lit (.bool false)], args := [d] }
  | _ => none }
def TokenSplitsWrongFalsely : Prop := tokenSplitsRow.holds Tryd.pinned (OpenSpec.ofChange tokenSplitsWrong)

/-- 'amortcostlaw03.TokenPlaces': WHATEVER THE INPUT: true; the input reads as it did. -/
def tokenPlacesSpec : ChangeSpec := { name := "tokenPlaces", fn := fun _ => fun
  | [d] => { results := [.lit (.bool true)], args := [d] }
  | _ => none }
def tokenPlacesRow : OpenClaim := { program := "ytdlcmnfjhnfjcaadoor", sum := "cc432df0c626679c27f6a6f67b3867fc577eeb2a1feae41ff8c66202e2433997", func := "amortcost/amortcostlaw03.TokenPlaces", spec := "tokenPlaces", unfollowed := true, recurses := true, named := ["amortcost/token.signs"], apart := false, laid := [("amortcost/token.signs", laid_amortcost_token_signs)] }
def TokenPlacesSaid : Prop := tokenPlacesRow.holds Tryd.pinned (OpenSpec.ofChange tokenPlacesSpec)

/-- ITS FALSE NEIGHBOUR: 'it returns false'. Refute it at one input. -/
def tokenPlacesWrong : ChangeSpec := { name := "tokenPlaces", fn := fun _ => fun
  | [d] => { results := [.lit (.bool false)], args := [d] }
  | _ => none }
def TokenPlacesWrongFalsely : Prop := tokenPlacesRow.holds Tryd.pinned (OpenSpec.ofChange tokenPlacesWrong)

/-- 'amortcostlaw03.TokenJoins': WHATEVER THE INPUT: true; the input reads as it did. -/
def tokenJoinsSpec : ChangeSpec := { name := "tokenJoins", fn := fun _ => fun
  | [d1, d2] => { results := [.lit (.bool true)], args := [d1, d2] }
  | _ => none }
def tokenJoinsRow : OpenClaim := { program := "ytdlcmnfjhnfjcaadoor", sum := "cc432df0c626679c27f6a6f67b3867fc577eeb2a1feae41ff8c66202e2433997", func := "amortcost/amortcostlaw03.TokenJoins", spec := "tokenJoins", unfollowed := true, recurses := true, named := ["amortcost/token.signs"], apart := false, laid := [("amortcost/token.signs", laid_amortcost_token_signs)] }
def TokenJoinsSaid : Prop := tokenJoinsRow.holds Tryd.pinned (OpenSpec.ofChange tokenJoinsSpec)

/-- ITS FALSE NEIGHBOUR: 'it returns false'. Refute it at one input. -/
def tokenJoinsWrong : ChangeSpec := { name := "tokenJoins", fn := fun _ => fun
  | [d1, d2] => { results := [.lit (.bool false)], args := [d1, d2] }
  | _ => none }
def TokenJoinsWrongFalsely : Prop := tokenJoinsRow.holds Tryd.pinned (OpenSpec.ofChange tokenJoinsWrong)

/-- 'amortcostlaw03.TokenErrors': WHATEVER THE INPUT: true; the input reads as it did. -/
def tokenErrorsSpec : ChangeSpec := { name := "tokenErrors", fn := fun _ => fun
  | [d] => { results := [.lit (.bool true)], args := [d] }
  | _ => none }
def tokenErrorsRow : OpenClaim := { program := "ytdlcmnfjhnfjcaadoor", sum := "cc432df0c626679c27f6a6f67b3867fc577eeb2a1feae41ff8c66202e2433997", func := "amortcost/amortcostlaw03.TokenErrors", spec := "tokenErrors", unfollowed := true, recurses := true, named := ["amortcost/token.signs"], apart := false, laid := [("amortcost/token.signs", laid_amortcost_token_signs)] }
def TokenErrorsSaid : Prop := tokenErrorsRow.holds Tryd.pinned (OpenSpec.ofChange tokenErrorsSpec)

/-- ITS FALSE NEIGHBOUR: 'it returns false'. Refute it at one input. -/
def tokenErrorsWrong : ChangeSpec := { name := "tokenErrors", fn := fun _ => fun
  | [d] => { results := [.lit (.bool false)], args := [d] }
  | _ => none }
def TokenErrorsWrongFalsely : Prop := tokenErrorsRow.holds Tryd.pinned (OpenSpec.ofChange tokenErrorsWrong)

/- THE SECOND FORM. 'bulk': how many values and letters a reading holds, each counted each time it is reached (what is shared counts as often as it is met; a slice's spare places count too). A statement '..UptoSaid' is the law's where the arguments, and the package variables that the reading takes, are together of bulk at most 1048576: NARROWER than '..Said'. Prove '..Said' where nothing that the law and all that it calls make is longer than what came in: it says more and counts as full. Else prove '..UptoSaid'. A law counts once. -/
mutual
def uptoBulk {H : Type} : DataW H → Nat
  | .lit (.string bytes) => bytes.length + 1
  | .lit _ => 1
  | .nil => 1
  | .ptr d => uptoBulk d + 1
  | .slice elems spare => uptoBulkAll elems + uptoBulkAll spare + 1
  | .agg parts => uptoBulkAll parts + 1
  | .iface _ d => uptoBulk d + 1
  | .map entries => uptoBulkEntries entries + 1
  | .held _ => 1
def uptoBulkAll {H : Type} : List (DataW H) → Nat
  | [] => 0
  | d :: r => uptoBulk d + uptoBulkAll r
def uptoBulkEntries {H : Type} : List (Lit × DataW H) → Nat
  | [] => 0
  | x :: r => uptoBulkEntry x + uptoBulkEntries r
def uptoBulkEntry {H : Type} : Lit × DataW H → Nat
  | (.string bytes, d) => bytes.length + uptoBulk d + 1
  | (_, d) => uptoBulk d + 1
 end
def uptoSmall : (H : Type) → List (DataW H) → Bool := fun _ ds => decide (uptoBulkAll ds ≤ 1048576)
def OpenSpec.upto (s : _root_.Go.ChangeSpec) : _root_.Go.OpenSpec := { _root_.Go.OpenSpec.ofChange s with cond := some uptoSmall }

/-- 'amortcostlaw03.TokenSplits', WHERE WHAT IT READS IS OF BULK AT MOST 1048576: true; the input reads as it did. -/
def tokenSplitsUptoRow : OpenClaim := { program := "ytdlcmnfjhnfjcaadoor", sum := "cc432df0c626679c27f6a6f67b3867fc577eeb2a1feae41ff8c66202e2433997", func := "amortcost/amortcostlaw03.TokenSplits", spec := "tokenSplits", unfollowed := true, recurses := true, named := ["amortcost/token.signs"], apart := false, laid := [("amortcost/token.signs", laid_amortcost_token_signs)], narrowed := true }
def TokenSplitsUptoSaid : Prop := tokenSplitsUptoRow.holds Tryd.pinned (OpenSpec.upto tokenSplitsSpec)

/-- 'amortcostlaw03.TokenPlaces', WHERE WHAT IT READS IS OF BULK AT MOST 1048576: true; the input reads as it did. -/
def tokenPlacesUptoRow : OpenClaim := { program := "ytdlcmnfjhnfjcaadoor", sum := "cc432df0c626679c27f6a6f67b3867fc577eeb2a1feae41ff8c66202e2433997", func := "amortcost/amortcostlaw03.TokenPlaces", spec := "tokenPlaces", unfollowed := true, recurses := true, named := ["amortcost/token.signs"], apart := false, laid := [("amortcost/token.signs", laid_amortcost_token_signs)], narrowed := true }
def TokenPlacesUptoSaid : Prop := tokenPlacesUptoRow.holds Tryd.pinned (OpenSpec.upto tokenPlacesSpec)

/-- 'amortcostlaw03.TokenJoins', WHERE WHAT IT READS IS OF BULK AT MOST 1048576: true; the input reads as it did. -/
def tokenJoinsUptoRow : OpenClaim := { program := "ytdlcmnfjhnfjcaadoor", sum := "cc432df0c626679c27f6a6f67b3867fc577eeb2a1feae41ff8c66202e2433997", func := "amortcost/amortcostlaw03.TokenJoins", spec := "tokenJoins", unfollowed := true, recurses := true, named := ["amortcost/token.signs"], apart := false, laid := [("amortcost/token.signs", laid_amortcost_token_signs)], narrowed := true }
def TokenJoinsUptoSaid : Prop := tokenJoinsUptoRow.holds Tryd.pinned (OpenSpec.upto tokenJoinsSpec)

/-- 'amortcostlaw03.TokenErrors', WHERE WHAT IT READS IS OF BULK AT MOST 1048576: true; the input reads as it did. -/
def tokenErrorsUptoRow : OpenClaim := { program := "ytdlcmnfjhnfjcaadoor", sum := "cc432df0c626679c27f6a6f67b3867fc577eeb2a1feae41ff8c66202e2433997", func := "amortcost/amortcostlaw03.TokenErrors", spec := "tokenErrors", unfollowed := true, recurses := true, named := ["amortcost/token.signs"], apart := false, laid := [("amortcost/token.signs", laid_amortcost_token_signs)], narrowed := true }
def TokenErrorsUptoSaid : Prop := tokenErrorsUptoRow.holds Tryd.pinned (OpenSpec.upto tokenErrorsSpec)

end Rows
end Go.Proofs.YtdlcmnfjhnfjcaaDoor
