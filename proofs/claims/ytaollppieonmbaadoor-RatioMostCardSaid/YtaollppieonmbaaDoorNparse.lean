/-
  Contracts of nat's isDigits, group and Parse: digits as a number. Conditions: the text has at most 20000 bytes (a longer one is told to be too long).
-/
import Derived.Test.YtaollppieonmbaaDoorNma
namespace Go.Proofs.YtaollppieonmbaaDoor
open Go.RowKit
set_option maxRecDepth 100000

/-- A byte that is a digit. -/
def isDig (c : UInt8) : Bool := decide (48 ≤ c.toNat) && decide (c.toNat ≤ 57)
/-- There is a byte, and all are digits. -/
def digB (l : List UInt8) : Bool := !l.isEmpty && l.all isDig
/-- The number of digits. -/
def dval (l : List UInt8) : Int := l.foldl (fun a c => a * 10 + ((c.toNat : Int) - 48)) 0
theorem dval_snoc (l : List UInt8) (c : UInt8) : dval (l ++ [c]) = dval l * 10 + ((c.toNat : Int) - 48) := by unfold dval; rw [List.foldl_append]; rfl
theorem dval_nil : dval [] = 0 := rfl
theorem dval_one (c : UInt8) : dval [c] = (c.toNat : Int) - 48 := by have := dval_snoc [] c; rw [dval_nil, List.nil_append] at this; omega
theorem dval_append : ∀ (l m : List UInt8), dval (l ++ m) = dval l * 10 ^ m.length + dval m
  | l, [] => by simp [dval_nil]
  | l, c :: m => by
    have h1 := dval_append (l ++ [c]) m
    have h2 := dval_append [c] m
    rw [List.append_assoc, dval_snoc] at h1
    simp only [List.singleton_append] at h1 h2
    rw [h1, h2, dval_one, List.length_cons, Int.pow_succ, Int.add_mul, Int.mul_assoc, Int.mul_comm 10]
    omega
theorem dval_cons (c : UInt8) (m : List UInt8) : dval (c :: m) = ((c.toNat : Int) - 48) * 10 ^ m.length + dval m := by
  have h2 := dval_append [c] m
  rw [dval_one] at h2
  exact h2
theorem dval_bd : ∀ {l : List UInt8}, l.all isDig = true → 0 ≤ dval l ∧ dval l < 10 ^ l.length
  | [], _ => by simp [dval_nil]
  | c :: m, h => by
    simp only [List.all_cons, Bool.and_eq_true] at h
    obtain ⟨h1, h2⟩ := dval_bd h.2
    have h3 := h.1
    unfold isDig at h3
    simp only [Bool.and_eq_true, decide_eq_true_eq] at h3
    have hp : (0 : Int) < 10 ^ m.length := Int.pow_pos (by decide)
    have h4 : 0 ≤ ((c.toNat : Int) - 48) * 10 ^ m.length := Int.mul_nonneg (by omega) (Int.le_of_lt hp)
    have h5 : ((c.toNat : Int) - 48) * 10 ^ m.length ≤ 9 * 10 ^ m.length := Int.mul_le_mul_of_nonneg_right (by omega) (Int.le_of_lt hp)
    rw [dval_cons, List.length_cons, Int.pow_succ]
    omega
theorem take_snoc (s : ByteArray) (k : Nat) (h : k < s.size) : s.data.toList.take (k + 1) = s.data.toList.take k ++ [s[k]] := by
  rw [List.take_succ_eq_append_getElem (by simpa using h)]; rfl

/-- What Parse hands back. -/
def parV (l : List UInt8) : Int := if digB l then dval l else 0
def parE (l : List UInt8) : Int := if digB l then 0 else 22
end Go.Proofs.YtaollppieonmbaaDoor
