/-
  How a slice of floats, as an argument, is read. Conditions: none.
-/
import Derived.Test.YtmeobamfjcjbhaaQopen
import Derived.Test.YtmeobamfjcjbhaaPatd
namespace Go.Proofs.Ytmeobamfjcjbhaa
open Go.ChangeShapes Go.WideShapes Go.ChangeAt Go.RowKit Go.Joins
set_option maxRecDepth 100000

section
variable {H : Type} {enc : TypeId × Value → H} {w : World} {base : Nat} {spare : Nat → Bool} {held : Bool} {r : Reach} {bb : Nat} {v : Value} {d : DataW H} {p : List MemPlace}
end
end Go.Proofs.Ytmeobamfjcjbhaa
