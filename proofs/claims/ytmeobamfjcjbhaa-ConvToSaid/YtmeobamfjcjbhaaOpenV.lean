/-
  How an integer of 32 bits is read among a law's arguments. Conditions: none.
-/
import Derived.Test.YtmeobamfjcjbhaaQopenF
namespace Go.Proofs.Ytmeobamfjcjbhaa
open Go.RowKit

theorem i32_of_wf {x : Int} (h : (Lit.int .i32 x).wf = true) : -2147483648 ≤ x ∧ x ≤ 2147483647 := by
  simp [Lit.wf, IntKind.min, IntKind.max, IntKind.signed, IntKind.bits] at h
  exact ⟨by omega, by omega⟩
end Go.Proofs.Ytmeobamfjcjbhaa
