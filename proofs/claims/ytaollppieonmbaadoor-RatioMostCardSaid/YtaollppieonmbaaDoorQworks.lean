/-
  The contract of the examples of layer 2: they hold. Condition: the table of math/bits stands in its variable.
-/
import Derived.Test.YtaollppieonmbaaDoorQwords
namespace Go.Proofs.YtaollppieonmbaaDoor
open Go.RowKit
set_option maxRecDepth 100000

theorem isNat_of (v : Int) (ws : List Int) (h1 : nv ws = v) (h2 : ws.all (fun x => decide (0 ≤ x) && decide (x < 4294967296)) = true) (h3 : tlen ws = ws.length) : IsNat v ws := by
  refine ⟨h1, fun x hx => ?_, h3⟩
  have := List.all_eq_true.1 h2 x hx
  simp only [Bool.and_eq_true, decide_eq_true_eq] at this
  exact this
theorem bytes_eq {s : ByteArray} {l : List UInt8} (h : s.data.toList = l) : s = ⟨l.toArray⟩ := by
  obtain ⟨⟨d⟩⟩ := s
  simp at h
  rw [h]

end Go.Proofs.YtaollppieonmbaaDoor
