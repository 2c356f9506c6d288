/-
  No cell of these rows narrows 'for every input' (looked for: loops, veiled, ifaces, maps, wideKeys, modest, calm, conditions, laid).
  DERIVED. THE GIVEN ROWS OF THIS SEAT. 4 by the template 'for every input the law returns true; each argument reads behind the call as it read before'; 0 by the template 'total and deterministic' (their statements: YtmeobamfjcjbhaaTotals.lean).
  GIVEN WITH THE SEED: the statements are not yours to turn. If you find one false, say at which input.
  Laid BY PROGRAM, IN A SANDBOX (cutbox-rows.mjs): the forced cells as the released guide's own fill.sh prints them over the translation 9cc731ea329f7fea… (all of the seat's roots in one cut). By AI agents, Wed Nov 11 2026. No macro, syntax, notation, axiom, sorry.
-/
import Derived.Test.YtmeobamfjcjbhaaChecked
import GoSem.Claim
import GoSem.ClaimJoined
import GoSem.ClaimMapViews
import Derived.JoinedTies
import Derived.KernelRfl
namespace Go.Proofs.Ytmeobamfjcjbhaa
/- THE CELL 'sum', in the pinned program and in every row, IS THE sha256 OF THE DUMP (.gsa) THAT YtmeobamfjcjbhaaProg.lean LOADS. Nothing in Lean hashes anything: it is a label: what it is worth is what the hold of that sum in a sandbox is worth. -/
noncomputable def Try.pinned : Pinned := { name := "ytmeobamfjcjbhaa", sum := "9cc731ea329f7fea62e8e0e3bf434cc9849aab36c639db92596c7a0e94f16b0f", checked := Try.checked }
namespace Rows
def none {H : Type} : Left H := { results := [], args := [] }

/-- 'flyballlaw07.ConvFrom': WHATEVER THE INPUT: true; the input reads as it did. -/
def convFromSpec : ChangeSpec := { name := "convFrom", fn := fun _ => fun
  | [d1, d2] => { results := [.lit (.bool true)], args := [d1, d2] }
  | _ => none }
def convFromRow : OpenClaim := { program := "ytmeobamfjcjbhaa", sum := "9cc731ea329f7fea62e8e0e3bf434cc9849aab36c639db92596c7a0e94f16b0f", func := "flyball/flyballlaw07.ConvFrom", spec := "convFrom", apart := false }
def ConvFromSaid : Prop := convFromRow.holds Try.pinned (OpenSpec.ofChange convFromSpec)

/-- ITS FALSE NEIGHBOUR: 'it returns false'. Refute it at one input. -/
def convFromWrong : ChangeSpec := { name := "convFrom", fn := fun _ => fun
  | [d1, d2] => { results := [.lit (.bool false)], args := [d1, d2] }
  | _ => none }
def ConvFromWrongFalsely : Prop := convFromRow.holds Try.pinned (OpenSpec.ofChange convFromWrong)

/-- 'flyballlaw07.ConvTo': WHATEVER THE INPUT: true; the input reads as it did. -/
def convToSpec : ChangeSpec := { name := "convTo", fn := fun _ => fun
  | [d] => { results := [.lit (.bool true)], args := [d] }
  | _ => none }
def convToRow : OpenClaim := { program := "ytmeobamfjcjbhaa", sum := "9cc731ea329f7fea62e8e0e3bf434cc9849aab36c639db92596c7a0e94f16b0f", func := "flyball/flyballlaw07.ConvTo", spec := "convTo", apart := false }
def ConvToSaid : Prop := convToRow.holds Try.pinned (OpenSpec.ofChange convToSpec)

/-- ITS FALSE NEIGHBOUR: 'it returns false'. Refute it at one input. -/
def convToWrong : ChangeSpec := { name := "convTo", fn := fun _ => fun
  | [d] => { results := [.lit (.bool false)], args := [d] }
  | _ => none }
def ConvToWrongFalsely : Prop := convToRow.holds Try.pinned (OpenSpec.ofChange convToWrong)

/-- 'flyballlaw07.ConvWhole': WHATEVER THE INPUT: true; the input reads as it did. -/
def convWholeSpec : ChangeSpec := { name := "convWhole", fn := fun _ => fun
  | [d1, d2] => { results := [.lit (.bool true)], args := [d1, d2] }
  | _ => none }
def convWholeRow : OpenClaim := { program := "ytmeobamfjcjbhaa", sum := "9cc731ea329f7fea62e8e0e3bf434cc9849aab36c639db92596c7a0e94f16b0f", func := "flyball/flyballlaw07.ConvWhole", spec := "convWhole", apart := false }
def ConvWholeSaid : Prop := convWholeRow.holds Try.pinned (OpenSpec.ofChange convWholeSpec)

/-- ITS FALSE NEIGHBOUR: 'it returns false'. Refute it at one input. -/
def convWholeWrong : ChangeSpec := { name := "convWhole", fn := fun _ => fun
  | [d1, d2] => { results := [.lit (.bool false)], args := [d1, d2] }
  | _ => none }
def ConvWholeWrongFalsely : Prop := convWholeRow.holds Try.pinned (OpenSpec.ofChange convWholeWrong)

/-- 'flyballlaw07.ConvBack': WHATEVER THE INPUT: true; the input reads as it did. -/
def convBackSpec : ChangeSpec := { name := "convBack", fn := fun _ => fun
  | [d1, d2] => { results := [.lit (.bool true)], args := [d1, d2] }
  | _ => none }
def convBackRow : OpenClaim := { program := "ytmeobamfjcjbhaa", sum := "9cc731ea329f7fea62e8e0e3bf434cc9849aab36c639db92596c7a0e94f16b0f", func := "flyball/flyballlaw07.ConvBack", spec := "convBack", apart := false }
def ConvBackSaid : Prop := convBackRow.holds Try.pinned (OpenSpec.ofChange convBackSpec)

/-- ITS FALSE NEIGHBOUR: 'it returns false'. Refute it at one input. -/
def convBackWrong : ChangeSpec := { name := "convBack", fn := fun _ => fun
  | [d1, d2] => { results := [.lit (.bool false)], args := [d1, d2] }
  | _ => none }
def ConvBackWrongFalsely : Prop := convBackRow.holds Try.pinned (OpenSpec.ofChange convBackWrong)

/- THE SECOND FORM. 'bulk': how many values and letters a reading holds, each counted each time it is reached (what is shared counts as often as it is met; a slice's spare places count too). A statement '..UptoSaid' is the law's where the arguments, and the package variables that the reading takes, are together of bulk at most 1048576: NARROWER than '..Said'. Prove '..Said' where nothing that the law and all that it calls make is longer than what came in: it says more and counts as full. Else prove '..UptoSaid'. A law counts once. -/
mutual
def uptoBulk {H : Type} : DataW H → Nat
  | .lit (.string bytes) => bytes.length + 1
  | .lit _ => 1
  | .nil => 1
  | .ptr d => uptoBulk d + 1
  | .slice elems spare => uptoBulkAll elems + uptoBulkAll spare + 1
  | .agg parts => uptoBulkAll parts + 1
  | .iface _ d => uptoBulk d + 1
  | .map entries => uptoBulkEntries entries + 1
  | .held _ => 1
def uptoBulkAll {H : Type} : List (DataW H) → Nat
  | [] => 0
  | d :: r => uptoBulk d + uptoBulkAll r
def uptoBulkEntries {H : Type} : List (Lit × DataW H) → Nat
  | [] => 0
  | x :: r => uptoBulkEntry x + uptoBulkEntries r
def uptoBulkEntry {H : Type} : Lit × DataW H → Nat
  | (.string bytes, d) => bytes.length + uptoBulk d + 1
  | (_, d) => uptoBulk d + 1
 end
def uptoSmall : (H : Type) → List (DataW H) → Bool := fun _ ds => decide (uptoBulkAll ds ≤ 1048576)
def OpenSpec.upto (s : _root_.Go.ChangeSpec) : _root_.Go.OpenSpec := { _root_.Go.OpenSpec.ofChange s with cond := some uptoSmall }

/-- 'flyballlaw07.ConvFrom', WHERE WHAT IT READS IS OF BULK AT MOST 1048576: true; the input reads as it did. -/
def convFromUptoRow : OpenClaim := { program := "ytmeobamfjcjbhaa", sum := "9cc731ea329f7fea62e8e0e3bf434cc9849aab36c639db92596c7a0e94f16b0f", func := "flyball/flyballlaw07.ConvFrom", spec := "convFrom", apart := false, narrowed := true }
def ConvFromUptoSaid : Prop := convFromUptoRow.holds Try.pinned (OpenSpec.upto convFromSpec)

/-- 'flyballlaw07.ConvTo', WHERE WHAT IT READS IS OF BULK AT MOST 1048576: true; the input reads as it did. -/
def convToUptoRow : OpenClaim := { program := "ytmeobamfjcjbhaa", sum := "9cc731ea329f7fea62e8e0e3bf434cc9849aab36c639db92596c7a0e94f16b0f", func := "flyball/flyballlaw07.ConvTo", spec := "convTo", apart := false, narrowed := true }
def ConvToUptoSaid : Prop := convToUptoRow.holds Try.pinned (OpenSpec.upto convToSpec)

/-- 'flyballlaw07.ConvWhole', WHERE WHAT IT READS IS OF BULK AT MOST 1048576: true; the input reads as it did. -/
def convWholeUptoRow : OpenClaim := { program := "ytmeobamfjcjbhaa", sum := "9cc731ea329f7fea62e8e0e3bf434cc9849aab36c639db92596c7a0e94f16b0f", func := "flyball/flyballlaw07.ConvWhole", spec := "convWhole", apart := false, narrowed := true }
def ConvWholeUptoSaid : Prop := convWholeUptoRow.holds Try.pinned (OpenSpec.upto convWholeSpec)

/-- 'flyballlaw07.ConvBack', WHERE WHAT IT READS IS OF BULK AT MOST 1048576: true; the input reads as it did. -/
def convBackUptoRow : OpenClaim := { program := "ytmeobamfjcjbhaa", sum := "9cc731ea329f7fea62e8e0e3bf434cc9849aab36c639db92596c7a0e94f16b0f", func := "flyball/flyballlaw07.ConvBack", spec := "convBack", apart := false, narrowed := true }
def ConvBackUptoSaid : Prop := convBackUptoRow.holds Try.pinned (OpenSpec.upto convBackSpec)

end Rows
end Go.Proofs.Ytmeobamfjcjbhaa
