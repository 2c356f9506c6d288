/-
  Short names of lemmas of the library. Conditions: none.
-/
import Derived.Test.YtkbicfffokegeaaGreatDoorRows
namespace Go.Proofs.YtkbicfffokegeaaGreatDoor
theorem aA {α:Type _}{l:List α}{i:Nat}{a:α}:l.toArray.setIfInBounds i a=(l.set i a).toArray:=List.setIfInBounds_toArray _ _ _
theorem aB {α:Type _}{x:α}{xs:List α}{n:Nat}{a:α}:(x::xs).set (n+1) a=x::xs.set n a:=rfl
theorem aC {α:Type _}{x:α}{xs:List α}{a:α}:(x::xs).set 0 a=a::xs:=rfl
theorem aD (n:Nat):n≤n:=Nat.le_refl n
theorem aE {n m k:Nat}:n<m→m≤k→n<k:=Nat.lt_of_lt_of_le
theorem aF {n m k:Nat}:n≤m→m≤k→n≤k:=Nat.le_trans
end Go.Proofs.YtkbicfffokegeaaGreatDoor
