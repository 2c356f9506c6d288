/-
  NARROWER THAN 'FOR EVERY INPUT', by the rows' own cells (each row's printed sentence says how): PatternParts: laid · PatternValues: laid · PatternOrders: laid · PatternNeighbours: laid · PatternBetween: laid · PatternSigns: laid.
  DERIVED. THE GIVEN ROWS OF THIS SEAT. 6 by the template 'for every input the law returns true; each argument reads behind the call as it read before'; 0 by the template 'total and deterministic' (their statements: YtnicecpmpnhmfaaDoorTotals.lean).
  GIVEN WITH THE SEED: the statements are not yours to turn. If you find one false, say at which input.
  Laid BY PROGRAM, IN A SANDBOX (cutbox-rows.mjs): the forced cells as the released guide's own fill.sh prints them over the translation c32b0c539e9d6648… (all of the seat's roots in one cut). By AI agents, Wed Nov 11 2026. No macro, syntax, notation, axiom, sorry.
-/
import Derived.Test.YtnicecpmpnhmfaaDoorChecked
import GoSem.Claim
import GoSem.ClaimJoined
import GoSem.ClaimMapViews
import Derived.JoinedTies
import Derived.KernelRfl
namespace Go.Proofs.YtnicecpmpnhmfaaDoor
/- THE CELL 'sum', in the pinned program and in every row, IS THE sha256 OF THE DUMP (.gsa) THAT YtnicecpmpnhmfaaDoorProg.lean LOADS. Nothing in Lean hashes anything: it is a label: what it is worth is what the hold of that sum in a sandbox is worth. -/
noncomputable def Tryd.pinned : Pinned := { name := "ytnicecpmpnhmfaadoor", sum := "c32b0c539e9d6648c16a32b238e139a53430d198e819c00c06268b01f2b8d634", checked := Tryd.checked }
namespace Rows
def none {H : Type} : Left H := { results := [], args := [] }

/- WHAT THE LISTED PACKAGE-LEVEL VARIABLES READ AS WHEN THE CALL BEGINS. Each datum BY PROGRAM (the guide's laid-datum.mjs) off the statement by which the dump's own 'gosem.cut.vars' lays the variable. In a bare row this is a premise. The card (YtnicecpmpnhmfaaDoorCards.lean) ties it to the program's text. -/
def laid_math_bits_deBruijn32tab {H : Type} : DataW H := .agg [.lit (.int .u8 0), .lit (.int .u8 1), .lit (.int .u8 28), .lit (.int .u8 2), .lit (.int .u8 29), .lit (.int .u8 14), .lit (.int .u8 24), .lit (.int .u8 3), .lit (.int .u8 30), .lit (.int .u8 22), .lit (.int .u8 20), .lit (.int .u8 15), .lit (.int .u8 25), .lit (.int .u8 17), .lit (.int .u8 4), .lit (.int .u8 8), .lit (.int .u8 31), .lit (.int .u8 27), .lit (.int .u8 13), .lit (.int .u8 23), .lit (.int .u8 21), .lit (.int .u8 19), .lit (.int .u8 16), .lit (.int .u8 7), .lit (.int .u8 26), .lit (.int .u8 12), .lit (.int .u8 18), .lit (.int .u8 6), .lit (.int .u8 11), .lit (.int .u8 5), .lit (.int .u8 10), .lit (.int .u8 9)]

/-- 'flyballlaw04.PatternParts': WHATEVER THE INPUT: true; the input reads as it did. -/
def patternPartsSpec : ChangeSpec := { name := "patternParts", fn := fun _ => fun
  | [d1, d2, d3, d4] => { results := [.lit (.bool true)], args := [d1, d2, d3, d4] }
  | _ => none }
def patternPartsRow : OpenClaim := { program := "ytnicecpmpnhmfaadoor", sum := "c32b0c539e9d6648c16a32b238e139a53430d198e819c00c06268b01f2b8d634", func := "flyball/flyballlaw04.PatternParts", spec := "patternParts", unfollowed := true, recurses := true, named := ["math/bits.deBruijn32tab", "math/bits.overflowError"], apart := false, laid := [("math/bits.deBruijn32tab", laid_math_bits_deBruijn32tab)] }
def PatternPartsSaid : Prop := patternPartsRow.holds Tryd.pinned (OpenSpec.ofChange patternPartsSpec)

/-- ITS FALSE NEIGHBOUR: 'it returns false'. Refute it at one input. -/
def patternPartsWrong : ChangeSpec := { name := "patternParts", fn := fun _ => fun
  | [d1, d2, d3, d4] => { results := [.lit (.bool false)], args := [d1, d2, d3, d4] }
  | _ => none }
def PatternPartsWrongFalsely : Prop := patternPartsRow.holds Tryd.pinned (OpenSpec.ofChange patternPartsWrong)

/-- 'flyballlaw04.PatternValues': WHATEVER THE INPUT: true; the input reads as it did. -/
def patternValuesSpec : ChangeSpec := { name := "patternValues", fn := fun _ => fun
  | [d] => { results := [.lit (.bool true)], args := [d] }
  | _ => none }
def patternValuesRow : OpenClaim := { program := "ytnicecpmpnhmfaadoor", sum := "c32b0c539e9d6648c16a32b238e139a53430d198e819c00c06268b01f2b8d634", func := "flyball/flyballlaw04.PatternValues", spec := "patternValues", unfollowed := true, recurses := true, named := ["math/bits.deBruijn32tab", "math/bits.overflowError"], apart := false, laid := [("math/bits.deBruijn32tab", laid_math_bits_deBruijn32tab)] }
def PatternValuesSaid : Prop := patternValuesRow.holds Tryd.pinned (OpenSpec.ofChange patternValuesSpec)

/-- ITS FALSE NEIGHBOUR: 'it returns false'. Refute it at one input. -/
def patternValuesWrong : ChangeSpec := { name := "patternValues", fn := fun _ => fun
  | [d] => { results := [.lit (.bool false)], args := [d] }
  | _ => none }
def PatternValuesWrongFalsely : Prop := patternValuesRow.holds Tryd.pinned (OpenSpec.ofChange patternValuesWrong)

/-- 'flyballlaw04.PatternOrders': WHATEVER THE INPUT: true; the input reads as it did. -/
def patternOrdersSpec : ChangeSpec := { name := "patternOrders", fn := fun _ => fun
  | [d1, d2] => { results := [.lit (.bool true)], args := [d1, d2] }
  | _ => none }
def patternOrdersRow : OpenClaim := { program := "ytnicecpmpnhmfaadoor", sum := "c32b0c539e9d6648c16a32b238e139a53430d198e819c00c06268b01f2b8d634", func := "flyball/flyballlaw04.PatternOrders", spec := "patternOrders", unfollowed := true, recurses := true, named := ["math/bits.deBruijn32tab", "math/bits.overflowError"], apart := false, laid := [("math/bits.deBruijn32tab", laid_math_bits_deBruijn32tab)] }
def PatternOrdersSaid : Prop := patternOrdersRow.holds Tryd.pinned (OpenSpec.ofChange patternOrdersSpec)

/-- ITS FALSE NEIGHBOUR: 'it returns false'. Refute it at one input. -/
def patternOrdersWrong : ChangeSpec := { name := "patternOrders", fn := fun _ => fun
  | [d1, d2] => { results := [.lit (.bool false)], args := [d1, d2] }
  | _ => none }
def PatternOrdersWrongFalsely : Prop := patternOrdersRow.holds Tryd.pinned (OpenSpec.ofChange patternOrdersWrong)

/-- 'flyballlaw04.PatternNeighbours': WHATEVER THE INPUT: true; the input reads as it did. -/
def patternNeighboursSpec : ChangeSpec := { name := "patternNeighbours", fn := fun _ => fun
  | [d] => { results := [.lit (.bool true)], args := [d] }
  | _ => none }
def patternNeighboursRow : OpenClaim := { program := "ytnicecpmpnhmfaadoor", sum := "c32b0c539e9d6648c16a32b238e139a53430d198e819c00c06268b01f2b8d634", func := "flyball/flyballlaw04.PatternNeighbours", spec := "patternNeighbours", unfollowed := true, recurses := true, named := ["math/bits.deBruijn32tab", "math/bits.overflowError"], apart := false, laid := [("math/bits.deBruijn32tab", laid_math_bits_deBruijn32tab)] }
def PatternNeighboursSaid : Prop := patternNeighboursRow.holds Tryd.pinned (OpenSpec.ofChange patternNeighboursSpec)

/-- ITS FALSE NEIGHBOUR: 'it returns false'. Refute it at one input. -/
def patternNeighboursWrong : ChangeSpec := { name := "patternNeighbours", fn := fun _ => fun
  | [d] => { results := [.lit (.bool false)], args := [d] }
  | _ => none }
def PatternNeighboursWrongFalsely : Prop := patternNeighboursRow.holds Tryd.pinned (OpenSpec.ofChange patternNeighboursWrong)

/-- 'flyballlaw04.PatternBetween': WHATEVER THE INPUT: true; the input reads as it did. -/
def patternBetweenSpec : ChangeSpec := { name := "patternBetween", fn := fun _ => fun
  | [d1, d2] => { results := [.lit (.bool true)], args := [d1, d2] }
  | _ => none }
def patternBetweenRow : OpenClaim := { program := "ytnicecpmpnhmfaadoor", sum := "c32b0c539e9d6648c16a32b238e139a53430d198e819c00c06268b01f2b8d634", func := "flyball/flyballlaw04.PatternBetween", spec := "patternBetween", unfollowed := true, recurses := true, named := ["math/bits.deBruijn32tab", "math/bits.overflowError"], apart := false, laid := [("math/bits.deBruijn32tab", laid_math_bits_deBruijn32tab)] }
def PatternBetweenSaid : Prop := patternBetweenRow.holds Tryd.pinned (OpenSpec.ofChange patternBetweenSpec)

/-- ITS FALSE NEIGHBOUR: 'it returns false'. Refute it at one input. -/
def patternBetweenWrong : ChangeSpec := { name := "patternBetween", fn := fun _ => fun
  | [d1, d2] => { results := [.lit (.bool false)], args := [d1, d2] }
  | _ => none }
def PatternBetweenWrongFalsely : Prop := patternBetweenRow.holds Tryd.pinned (OpenSpec.ofChange patternBetweenWrong)

/-- 'flyballlaw04.PatternSigns': WHATEVER THE INPUT: true; the input reads as it did. -/
def patternSignsSpec : ChangeSpec := { name := "patternSigns", fn := fun _ => fun
  | [d] => { results := [.lit (.bool true)], args := [d] }
  | _ => none }
def patternSignsRow : OpenClaim := { program := "ytnicecpmpnhmfaadoor", sum := "c32b0c539e9d6648c16a32b238e139a53430d198e819c00c06268b01f2b8d634", func := "flyball/flyballlaw04.PatternSigns", spec := "patternSigns", unfollowed := true, recurses := true, named := ["math/bits.deBruijn32tab", "math/bits.overflowError"], apart := false, laid := [("math/bits.deBruijn32tab", laid_math_bits_deBruijn32tab)] }
def PatternSignsSaid : Prop := patternSignsRow.holds Tryd.pinned (OpenSpec.ofChange patternSignsSpec)

/-- ITS FALSE NEIGHBOUR: 'it returns false'. Refute it at one input. -/
def patternSignsWrong : ChangeSpec := { name := "patternSigns", fn := fun _ => fun
  | [d] => { results := [.lit (.bool false)], args := [d] }
  | _ => none }
def PatternSignsWrongFalsely : Prop := patternSignsRow.holds Tryd.pinned (OpenSpec.ofChange patternSignsWrong)

/- THE SECOND FORM. 'bulk': how many values and letters a reading holds, each counted each time it is reached (what is shared counts as often as it is met; a slice's spare places count too). A statement '..UptoSaid' is the law's where the arguments, and the package variables that the reading takes, are together of bulk at most 1048576: NARROWER than '..Said'. Prove '..Said' where nothing that the law and all that it calls make is longer than what came in: it says more and counts as full. Else prove '..UptoSaid'. A law counts once. -/
mutual
def uptoBulk {H : Type} : DataW H → Nat
  | .lit (.string bytes) => bytes.length + 1
  | .lit _ => 1
  | .nil => 1
  | .ptr d => uptoBulk d + 1
  | .slice elems spare => uptoBulkAll elems + uptoBulkAll spare + 1
  | .agg parts => uptoBulkAll parts + 1
  | .iface _ d => uptoBulk d + 1
  | .map entries => uptoBulkEntries entries + 1
  | .held _ => 1
def uptoBulkAll {H : Type} : List (DataW H) → Nat
  | [] => 0
  | d :: r => uptoBulk d + uptoBulkAll r
def uptoBulkEntries {H : Type} : List (Lit × DataW H) → Nat
  | [] => 0
  | x :: r => uptoBulkEntry x + uptoBulkEntries r
def uptoBulkEntry {H : Type} : Lit × DataW H → Nat
  | (.string bytes, d) => bytes.length + uptoBulk d + 1
  | (_, d) => uptoBulk d + 1
 end
def uptoSmall : (H : Type) → List (DataW H) → Bool := fun _ ds => decide (uptoBulkAll ds ≤ 1048576)
def OpenSpec.upto (s : _root_.Go.ChangeSpec) : _root_.Go.OpenSpec := { _root_.Go.OpenSpec.ofChange s with cond := some uptoSmall }

/-- 'flyballlaw04.PatternParts', WHERE WHAT IT READS IS OF BULK AT MOST 1048576: true; the input reads as it did. -/
def patternPartsUptoRow : OpenClaim := { program := "ytnicecpmpnhmfaadoor", sum := "c32b0c539e9d6648c16a32b238e139a53430d198e819c00c06268b01f2b8d634", func := "flyball/flyballlaw04.PatternParts", spec := "patternParts", unfollowed := true, recurses := true, named := ["math/bits.deBruijn32tab", "math/bits.overflowError"], apart := false, laid := [("math/bits.deBruijn32tab", laid_math_bits_deBruijn32tab)], narrowed := true }
def PatternPartsUptoSaid : Prop := patternPartsUptoRow.holds Tryd.pinned (OpenSpec.upto patternPartsSpec)

/-- 'flyballlaw04.PatternValues', WHERE WHAT IT READS IS OF BULK AT MOST 1048576: true; the input reads as it did. -/
def patternValuesUptoRow : OpenClaim := { program := "ytnicecpmpnhmfaadoor", sum := "c32b0c539e9d6648c16a32b238e139a53430d198e819c00c06268b01f2b8d634", func := "flyball/flyballlaw04.PatternValues", spec := "patternValues", unfollowed := true, recurses := true, named := ["math/bits.deBruijn32tab", "math/bits.overflowError"], apart := false, laid := [("math/bits.deBruijn32tab", laid_math_bits_deBruijn32tab)], narrowed := true }
def PatternValuesUptoSaid : Prop := patternValuesUptoRow.holds Tryd.pinned (OpenSpec.upto patternValuesSpec)

/-- 'flyballlaw04.PatternOrders', WHERE WHAT IT READS IS OF BULK AT MOST 1048576: true; the input reads as it did. -/
def patternOrdersUptoRow : OpenClaim := { program := "ytnicecpmpnhmfaadoor", sum := "c32b0c539e9d6648c16a32b238e139a53430d198e819c00c06268b01f2b8d634", func := "flyball/flyballlaw04.PatternOrders", spec := "patternOrders", unfollowed := true, recurses := true, named := ["math/bits.deBruijn32tab", "math/bits.overflowError"], apart := false, laid := [("math/bits.deBruijn32tab", laid_math_bits_deBruijn32tab)], narrowed := true }
def PatternOrdersUptoSaid : Prop := patternOrdersUptoRow.holds Tryd.pinned (OpenSpec.upto patternOrdersSpec)

/-- 'flyballlaw04.PatternNeighbours', WHERE WHAT IT READS IS OF BULK AT MOST 1048576: true; the input reads as it did. -/
def patternNeighboursUptoRow : OpenClaim := { program := "ytnicecpmpnhmfaadoor", sum := "c32b0c539e9d6648c16a32b238e139a53430d198e819c00c06268b01f2b8d634", func := "flyball/flyballlaw04.PatternNeighbours", spec := "patternNeighbours", unfollowed := true, recurses := true, named := ["math/bits.deBruijn32tab", "math/bits.overflowError"], apart := false, laid := [("math/bits.deBruijn32tab", laid_math_bits_deBruijn32tab)], narrowed := true }
def PatternNeighboursUptoSaid : Prop := patternNeighboursUptoRow.holds Tryd.pinned (OpenSpec.upto patternNeighboursSpec)

/-- 'flyballlaw04.PatternBetween', WHERE WHAT IT READS IS OF BULK AT MOST 1048576: true; the input reads as it did. -/
def patternBetweenUptoRow : OpenClaim := { program := "ytnicecpmpnhmfaadoor", sum := "c32b0c539e9d6648c16a32b238e139a53430d198e819c00c06268b01f2b8d634", func := "flyball/flyballlaw04.PatternBetween", spec := "patternBetween", unfollowed := true, recurses := true, named := ["math/bits.deBruijn32tab", "math/bits.overflowError"], apart := false, laid := [("math/bits.deBruijn32tab", laid_math_bits_deBruijn32tab)], narrowed := true }
def PatternBetweenUptoSaid : Prop := patternBetweenUptoRow.holds Tryd.pinned (OpenSpec.upto patternBetweenSpec)

/-- 'flyballlaw04.PatternSigns', WHERE WHAT IT READS IS OF BULK AT MOST 1048576: true; the input reads as it did. -/
def patternSignsUptoRow : OpenClaim := { program := "ytnicecpmpnhmfaadoor", sum := "c32b0c539e9d6648c16a32b238e139a53430d198e819c00c06268b01f2b8d634", func := "flyball/flyballlaw04.PatternSigns", spec := "patternSigns", unfollowed := true, recurses := true, named := ["math/bits.deBruijn32tab", "math/bits.overflowError"], apart := false, laid := [("math/bits.deBruijn32tab", laid_math_bits_deBruijn32tab)], narrowed := true }
def PatternSignsUptoSaid : Prop := patternSignsUptoRow.holds Tryd.pinned (OpenSpec.upto patternSignsSpec)

end Rows
end Go.Proofs.YtnicecpmpnhmfaaDoor
