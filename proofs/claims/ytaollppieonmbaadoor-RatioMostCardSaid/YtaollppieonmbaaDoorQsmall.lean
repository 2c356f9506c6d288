/-
  The contract of layer 2's helper 'small', and what bounds numbers. Conditions: none.
-/
import Derived.Test.YtaollppieonmbaaDoorQworks
import Derived.Test.YtaollppieonmbaaDoorRdiv
namespace Go.Proofs.YtaollppieonmbaaDoor
open Go.RowKit
set_option maxRecDepth 100000

/-- Are the slices short enough? -/
def smallB (ls : List (Option Addr × Nat × Nat)) : Bool := ls.all fun p => decide (p.2.1 ≤ 24)
theorem add_bd {x y : Int} {a b c : Nat} (h1 : x < 2 ^ (32 * a)) (h2 : y < 2 ^ (32 * b)) (h3 : a < c) (h4 : b < c) : x + y < 2 ^ (32 * c) := by
  have l1 := pow_mono (32 * a) (32 * (c - 1)) (by omega)
  have l2 := pow_mono (32 * b) (32 * (c - 1)) (by omega)
  have l3 := pow32 (c - 1)
  rw [show c - 1 + 1 = c by omega] at l3
  have := pow_pos' (32 * (c - 1))
  omega
theorem mul_bd {x y : Int} {a b c : Nat} (h0 : 0 ≤ x) (h1 : x < 2 ^ (32 * a)) (h2 : y < 2 ^ (32 * b)) (h3 : a + b = c) : x * y < 2 ^ (32 * c) := by
  subst h3
  rw [pow_off]
  have a1 : x * y ≤ x * 2 ^ (32 * b) := Int.mul_le_mul_of_nonneg_left (by omega) h0
  have a2 : x * 2 ^ (32 * b) < 2 ^ (32 * a) * 2 ^ (32 * b) := Int.mul_lt_mul_of_pos_right h1 (pow_pos' _)
  omega
/-- What is known of a number that was handed in: at most 24 words. -/
theorem in_bd {us : List Int} {n : Nat} (hu : AllW us) (hn : us.length = n) (h : n ≤ 24) (B : Nat) (hB : 24 ≤ B) : nv us < 2 ^ (32 * B) := by
  have := nv_lt us hu
  rw [hn] at this
  have := pow_mono (32 * n) (32 * B) (by omega)
  omega
/-- Of a row of a number's bits. -/
theorem IsBitsOf.le {v : Int} {xs : List Bool} {B : Nat} (h : IsBitsOf v xs) (h0 : 0 ≤ v) (h1 : v < 2 ^ B) : xs.length ≤ B := by
  have := (blen_bd h0 h1).2
  have := h.len
  omega
end Go.Proofs.YtaollppieonmbaaDoor
