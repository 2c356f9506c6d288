/-
  NARROWER THAN 'FOR EVERY INPUT', by the rows' own cells (each row's printed sentence says how): RoundRounds: laid · RoundExacts: laid · RoundHolds: laid · RoundStays: laid · RoundRises: laid · RoundUlps: laid.
  DERIVED. THE GIVEN ROWS OF THIS SEAT. 6 by the template 'for every input the law returns true; each argument reads behind the call as it read before'; 0 by the template 'total and deterministic' (their statements: YtdjhpplcdkgfgaaDoorTotals.lean).
  GIVEN WITH THE SEED: the statements are not yours to turn. If you find one false, say at which input.
  Laid BY PROGRAM, IN A SANDBOX (cutbox-rows.mjs): the forced cells as the released guide's own fill.sh prints them over the translation ad38dbfe67cd524e… (all of the seat's roots in one cut). By AI agents, Wed Nov 11 2026. No macro, syntax, notation, axiom, sorry.
-/
import Derived.Test.YtdjhpplcdkgfgaaDoorChecked
import GoSem.Claim
import GoSem.ClaimJoined
import GoSem.ClaimMapViews
import Derived.JoinedTies
import Derived.KernelRfl
namespace Go.Proofs.YtdjhpplcdkgfgaaDoor
/- THE CELL 'sum', in the pinned program and in every row, IS THE sha256 OF THE DUMP (.gsa) THAT YtdjhpplcdkgfgaaDoorProg.lean LOADS. Nothing in Lean hashes anything: it is a label: what it is worth is what the hold of that sum in a sandbox is worth. -/
noncomputable def Tryd.pinned : Pinned := { name := "ytdjhpplcdkgfgaadoor", sum := "ad38dbfe67cd524ed71bf28052033622d4b26ec1c6d796daa186dbcff177eb01", checked := Tryd.checked }
namespace Rows
def none {H : Type} : Left H := { results := [], args := [] }

/- WHAT THE LISTED PACKAGE-LEVEL VARIABLES READ AS WHEN THE CALL BEGINS. Each datum BY PROGRAM (the guide's laid-datum.mjs) off the statement by which the dump's own 'gosem.cut.vars' lays the variable. In a bare row this is a premise. The card (YtdjhpplcdkgfgaaDoorCards.lean) ties it to the program's text. -/
def laid_math_bits_deBruijn32tab {H : Type} : DataW H := .agg [.lit (.int .u8 0), .lit (.int .u8 1), .lit (.int .u8 28), .lit (.int .u8 2), .lit (.int .u8 29), .lit (.int .u8 14), .lit (.int .u8 24), .lit (.int .u8 3), .lit (.int .u8 30), .lit (.int .u8 22), .lit (.int .u8 20), .lit (.int .u8 15), .lit (.int .u8 25), .lit (.int .u8 17), .lit (.int .u8 4), .lit (.int .u8 8), .lit (.int .u8 31), .lit (.int .u8 27), .lit (.int .u8 13), .lit (.int .u8 23), .lit (.int .u8 21), .lit (.int .u8 19), .lit (.int .u8 16), .lit (.int .u8 7), .lit (.int .u8 26), .lit (.int .u8 12), .lit (.int .u8 18), .lit (.int .u8 6), .lit (.int .u8 11), .lit (.int .u8 5), .lit (.int .u8 10), .lit (.int .u8 9)]

/-- 'flyballlaw05.RoundRounds': WHATEVER THE INPUT: true; the input reads as it did. -/
def roundRoundsSpec : ChangeSpec := { name := "roundRounds", fn := fun _ => fun
  | [d1, d2, d3, d4, d5] => { results := [.lit (.bool true)], args := [d1, d2, d3, d4, d5] }
  | _ => none }
def roundRoundsRow : OpenClaim := { program := "ytdjhpplcdkgfgaadoor", sum := "ad38dbfe67cd524ed71bf28052033622d4b26ec1c6d796daa186dbcff177eb01", func := "flyball/flyballlaw05.RoundRounds", spec := "roundRounds", named := ["math/bits.deBruijn32tab", "math/bits.overflowError"], apart := false, laid := [("math/bits.deBruijn32tab", laid_math_bits_deBruijn32tab)] }
def RoundRoundsSaid : Prop := roundRoundsRow.holds Tryd.pinned (OpenSpec.ofChange roundRoundsSpec)

/-- ITS FALSE NEIGHBOUR: 'it returns false'. Refute it at one input. -/
def roundRoundsWrong : ChangeSpec := { name := "roundRounds", fn := fun _ => fun
  | [d1, d2, d3, d4, d5] => { results := [.lit (.bool false)], args := [d1, d2, d3, d4, d5] }
  | _ => none }
def RoundRoundsWrongFalsely : Prop := roundRoundsRow.holds Tryd.pinned (OpenSpec.ofChange roundRoundsWrong)

/-- 'flyballlaw05.RoundExacts': WHATEVER THE INPUT: true; the input reads as it did. -/
def roundExactsSpec : ChangeSpec := { name := "roundExacts", fn := fun _ => fun
  | [d1, d2] => { results := [.lit (.bool true)], args := [d1, d2] }
  | _ => none }
def roundExactsRow : OpenClaim := { program := "ytdjhpplcdkgfgaadoor", sum := "ad38dbfe67cd524ed71bf28052033622d4b26ec1c6d796daa186dbcff177eb01", func := "flyball/flyballlaw05.RoundExacts", spec := "roundExacts", named := ["math/bits.deBruijn32tab", "math/bits.overflowError"], apart := false, laid := [("math/bits.deBruijn32tab", laid_math_bits_deBruijn32tab)] }
def RoundExactsSaid : Prop := roundExactsRow.holds Tryd.pinned (OpenSpec.ofChange roundExactsSpec)

/-- ITS FALSE NEIGHBOUR: 'it returns false'. Refute it at one input. -/
def roundExactsWrong : ChangeSpec := { name := "roundExacts", fn := fun _ => fun
  | [d1, d2] => { results := [.lit (.bool false)], args := [d1, d2] }
  | _ => none }
def RoundExactsWrongFalsely : Prop := roundExactsRow.holds Tryd.pinned (OpenSpec.ofChange roundExactsWrong)

/-- 'flyballlaw05.RoundHolds': WHATEVER THE INPUT: true; the input reads as it did. -/
def roundHoldsSpec : ChangeSpec := { name := "roundHolds", fn := fun _ => fun
  | [d1, d2] => { results := [.lit (.bool true)], args := [d1, d2] }
  | _ => none }
def roundHoldsRow : OpenClaim := { program := "ytdjhpplcdkgfgaadoor", sum := "ad38dbfe67cd524ed71bf28052033622d4b26ec1c6d796daa186dbcff177eb01", func := "flyball/flyballlaw05.RoundHolds", spec := "roundHolds", named := ["math/bits.deBruijn32tab", "math/bits.overflowError"], apart := false, laid := [("math/bits.deBruijn32tab", laid_math_bits_deBruijn32tab)] }
def RoundHoldsSaid : Prop := roundHoldsRow.holds Tryd.pinned (OpenSpec.ofChange roundHoldsSpec)

/-- ITS FALSE NEIGHBOUR: 'it returns false'. Refute it at one input. -/
def roundHoldsWrong : ChangeSpec := { name := "roundHolds", fn := fun _ => fun
  | [d1, d2] => { results := [.lit (.bool false)], args := [d1, d2] }
  | _ => none }
def RoundHoldsWrongFalsely : Prop := roundHoldsRow.holds Tryd.pinned (OpenSpec.ofChange roundHoldsWrong)

/-- 'flyballlaw05.RoundStays': WHATEVER THE INPUT: true; the input reads as it did. -/
def roundStaysSpec : ChangeSpec := { name := "roundStays", fn := fun _ => fun
  | [d1, d2] => { results := [.lit (.bool true)], args := [d1, d2] }
  | _ => none }
def roundStaysRow : OpenClaim := { program := "ytdjhpplcdkgfgaadoor", sum := "ad38dbfe67cd524ed71bf28052033622d4b26ec1c6d796daa186dbcff177eb01", func := "flyball/flyballlaw05.RoundStays", spec := "roundStays", named := ["math/bits.deBruijn32tab", "math/bits.overflowError"], apart := false, laid := [("math/bits.deBruijn32tab", laid_math_bits_deBruijn32tab)] }
def RoundStaysSaid : Prop := roundStaysRow.holds Tryd.pinned (OpenSpec.ofChange roundStaysSpec)

/-- ITS FALSE NEIGHBOUR: 'it returns false'. Refute it at one input. -/
def roundStaysWrong : ChangeSpec := { name := "roundStays", fn := fun _ => fun
  | [d1, d2] => { results := [.lit (.bool false)], args := [d1, d2] }
  | _ => none }
def RoundStaysWrongFalsely : Prop := roundStaysRow.holds Tryd.pinned (OpenSpec.ofChange roundStaysWrong)

/-- 'flyballlaw05.RoundRises': WHATEVER THE INPUT: true; the input reads as it did. -/
def roundRisesSpec : ChangeSpec := { name := "roundRises", fn := fun _ => fun
  | [d1, d2, d3] => { results := [.lit (.bool true)], args := [d1, d2, d3] }
  | _ => none }
def roundRisesRow : OpenClaim := { program := "ytdjhpplcdkgfgaadoor", sum := "ad38dbfe67cd524ed71bf28052033622d4b26ec1c6d796daa186dbcff177eb01", func := "flyball/flyballlaw05.RoundRises", spec := "roundRises", named := ["math/bits.deBruijn32tab", "math/bits.overflowError"], apart := false, laid := [("math/bits.deBruijn32tab", laid_math_bits_deBruijn32tab)] }
def RoundRisesSaid : Prop := roundRisesRow.holds Tryd.pinned (OpenSpec.ofChange roundRisesSpec)

/-- ITS FALSE NEIGHBOUR: 'it returns false'. Refute it at one input. -/
def roundRisesWrong : ChangeSpec := { name := "roundRises", fn := fun _ => fun
  | [d1, d2, d3] => { results := [.lit (.bool false)], args := [d1, d2, d3] }
  | _ => none }
def RoundRisesWrongFalsely : Prop := roundRisesRow.holds Tryd.pinned (OpenSpec.ofChange roundRisesWrong)

/-- 'flyballlaw05.RoundUlps': WHATEVER THE INPUT: true; the input reads as it did. -/
def roundUlpsSpec : ChangeSpec := { name := "roundUlps", fn := fun _ => fun
  | [d] => { results := [.lit (.bool true)], args := [d] }
  | _ => none }
def roundUlpsRow : OpenClaim := { program := "ytdjhpplcdkgfgaadoor", sum := "ad38dbfe67cd524ed71bf28052033622d4b26ec1c6d796daa186dbcff177eb01", func := "flyball/flyballlaw05.RoundUlps", spec := "roundUlps", named := ["math/bits.deBruijn32tab", "math/bits.overflowError"], apart := false, laid := [("math/bits.deBruijn32tab", laid_math_bits_deBruijn32tab)] }
def RoundUlpsSaid : Prop := roundUlpsRow.holds Tryd.pinned (OpenSpec.ofChange roundUlpsSpec)

/-- ITS FALSE NEIGHBOUR: 'it returns false'. Refute it at one input. -/
def roundUlpsWrong : ChangeSpec := { name := "roundUlps", fn := fun _ => fun
  | [d] => { results := [.lit (.bool false)], args := [d] }
  | _ => none }
def RoundUlpsWrongFalsely : Prop := roundUlpsRow.holds Tryd.pinned (OpenSpec.ofChange roundUlpsWrong)

/- THE SECOND FORM. 'bulk': how many values and letters a reading holds, each counted each time it is reached (what is shared counts as often as it is met; a slice's spare places count too). A statement '..UptoSaid' is the law's where the arguments, and the package variables that the reading takes, are together of bulk at most 1048576: NARROWER than '..Said'. Prove '..Said' where nothing that the law and all that it calls make is longer than what came in: it says more and counts as full. Else prove '..UptoSaid'. A law counts once. -/
mutual
def uptoBulk {H : Type} : DataW H → Nat
  | .lit (.string bytes) => bytes.length + 1
  | .lit _ => 1
  | .nil => 1
  | .ptr d => uptoBulk d + 1
  | .slice elems spare => uptoBulkAll elems + uptoBulkAll spare + 1
  | .agg parts => uptoBulkAll parts + 1
  | .iface _ d => uptoBulk d + 1
  | .map entries => uptoBulkEntries entries + 1
  | .held _ => 1
def uptoBulkAll {H : Type} : List (DataW H) → Nat
  | [] => 0
  | d :: r => uptoBulk d + uptoBulkAll r
def uptoBulkEntries {H : Type} : List (Lit × DataW H) → Nat
  | [] => 0
  | x :: r => uptoBulkEntry x + uptoBulkEntries r
def uptoBulkEntry {H : Type} : Lit × DataW H → Nat
  | (.string bytes, d) => bytes.length + uptoBulk d + 1
  | (_, d) => uptoBulk d + 1
 end
def uptoSmall : (H : Type) → List (DataW H) → Bool := fun _ ds => decide (uptoBulkAll ds ≤ 1048576)
def OpenSpec.upto (s : _root_.Go.ChangeSpec) : _root_.Go.OpenSpec := { _root_.Go.OpenSpec.ofChange s with cond := some uptoSmall }

/-- 'flyballlaw05.RoundRounds', WHERE WHAT IT READS IS OF BULK AT MOST 1048576: true; the input reads as it did. -/
def roundRoundsUptoRow : OpenClaim := { program := "ytdjhpplcdkgfgaadoor", sum := "ad38dbfe67cd524ed71bf28052033622d4b26ec1c6d796daa186dbcff177eb01", func := "flyball/flyballlaw05.RoundRounds", spec := "roundRounds", named := ["math/bits.deBruijn32tab", "math/bits.overflowError"], apart := false, laid := [("math/bits.deBruijn32tab", laid_math_bits_deBruijn32tab)], narrowed := true }
def RoundRoundsUptoSaid : Prop := roundRoundsUptoRow.holds Tryd.pinned (OpenSpec.upto roundRoundsSpec)

/-- 'flyballlaw05.RoundExacts', WHERE WHAT IT READS IS OF BULK AT MOST 1048576: true; the input reads as it did. -/
def roundExactsUptoRow : OpenClaim := { program := "ytdjhpplcdkgfgaadoor", sum := "ad38dbfe67cd524ed71bf28052033622d4b26ec1c6d796daa186dbcff177eb01", func := "flyball/flyballlaw05.RoundExacts", spec := "roundExacts", named := ["math/bits.deBruijn32tab", "math/bits.overflowError"], apart := false, laid := [("math/bits.deBruijn32tab", laid_math_bits_deBruijn32tab)], narrowed := true }
def RoundExactsUptoSaid : Prop := roundExactsUptoRow.holds Tryd.pinned (OpenSpec.upto roundExactsSpec)

/-- 'flyballlaw05.RoundHolds', WHERE WHAT IT READS IS OF BULK AT MOST 1048576: true; the input reads as it did. -/
def roundHoldsUptoRow : OpenClaim := { program := "ytdjhpplcdkgfgaadoor", sum := "ad38dbfe67cd524ed71bf28052033622d4b26ec1c6d796daa186dbcff177eb01", func := "flyball/flyballlaw05.RoundHolds", spec := "roundHolds", named := ["math/bits.deBruijn32tab", "math/bits.overflowError"], apart := false, laid := [("math/bits.deBruijn32tab", laid_math_bits_deBruijn32tab)], narrowed := true }
def RoundHoldsUptoSaid : Prop := roundHoldsUptoRow.holds Tryd.pinned (OpenSpec.upto roundHoldsSpec)

/-- 'flyballlaw05.RoundStays', WHERE WHAT IT READS IS OF BULK AT MOST 1048576: true; the input reads as it did. -/
def roundStaysUptoRow : OpenClaim := { program := "ytdjhpplcdkgfgaadoor", sum := "ad38dbfe67cd524ed71bf28052033622d4b26ec1c6d796daa186dbcff177eb01", func := "flyball/flyballlaw05.RoundStays", spec := "roundStays", named := ["math/bits.deBruijn32tab", "math/bits.overflowError"], apart := false, laid := [("math/bits.deBruijn32tab", laid_math_bits_deBruijn32tab)], narrowed := true }
def RoundStaysUptoSaid : Prop := roundStaysUptoRow.holds Tryd.pinned (OpenSpec.upto roundStaysSpec)

/-- 'flyballlaw05.RoundRises', WHERE WHAT IT READS IS OF BULK AT MOST 1048576: true; the input reads as it did. -/
def roundRisesUptoRow : OpenClaim := { program := "ytdjhpplcdkgfgaadoor", sum := "ad38dbfe67cd524ed71bf28052033622d4b26ec1c6d796daa186dbcff177eb01", func := "flyball/flyballlaw05.RoundRises", spec := "roundRises", named := ["math/bits.deBruijn32tab", "math/bits.overflowError"], apart := false, laid := [("math/bits.deBruijn32tab", laid_math_bits_deBruijn32tab)], narrowed := true }
def RoundRisesUptoSaid : Prop := roundRisesUptoRow.holds Tryd.pinned (OpenSpec.upto roundRisesSpec)

/-- 'flyballlaw05.RoundUlps', WHERE WHAT IT READS IS OF BULK AT MOST 1048576: true; the input reads as it did. -/
def roundUlpsUptoRow : OpenClaim := { program := "ytdjhpplcdkgfgaadoor", sum := "ad38dbfe67cd524ed71bf28052033622d4b26ec1c6d796daa186dbcff177eb01", func := "flyball/flyballlaw05.RoundUlps", spec := "roundUlps", named := ["math/bits.deBruijn32tab", "math/bits.overflowError"], apart := false, laid := [("math/bits.deBruijn32tab", laid_math_bits_deBruijn32tab)], narrowed := true }
def RoundUlpsUptoSaid : Prop := roundUlpsUptoRow.holds Tryd.pinned (OpenSpec.upto roundUlpsSpec)

end Rows
end Go.Proofs.YtdjhpplcdkgfgaaDoor
