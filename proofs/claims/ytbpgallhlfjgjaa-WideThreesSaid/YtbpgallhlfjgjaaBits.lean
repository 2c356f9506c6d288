/-
  Contracts of math/bits.Add64, Sub64, Mul64, Len64 as the program of this seat has them, for every word. Conditions: the arguments are words of 64 bits, a carry is 0 or 1.
-/
import Derived.Test.YtbpgallhlfjgjaaRows
import Derived.WalkKit
import Derived.WalkSpells
import Derived.Laws.Pointers
import Derived.Shelf.Spec.BitsCarry
import Derived.Lib.Mul64
import Derived.Test.YtbpgallhlfjgjaaLen
import Derived.Lib.Hide
import Derived.Shelf.Bits.Mul64
namespace Go.Proofs.Ytbpgallhlfjgjaa
open Go.RowKit

/-- A word of 64 bits. -/
def Word (x : Int) : Prop := 0 ≤ x ∧ x < 18446744073709551616
theorem Word.lo {x : Int} (h : Word x) : 0 ≤ x := h.1
theorem Word.hi {x : Int} (h : Word x) : x < 18446744073709551616 := h.2
theorem word_mod (x : Int) : Word (x % 18446744073709551616) := ⟨by omega, by omega⟩
theorem word_nat {x : Int} (h : Word x) : ∃ n : Nat, n < 18446744073709551616 ∧ x = (n : Int) :=
  ⟨x.toNat, by have := h.1; have := h.2; omega, by have := h.1; omega⟩

/-- The number of two words, and of three. -/
def V2 (h l : Int) : Int := h * 18446744073709551616 + l
def V3 (h m l : Int) : Int := h * 340282366920938463463374607431768211456 + m * 18446744073709551616 + l

theorem add64 (x y c : Int) (hx : 0 ≤ x) (hy : 0 ≤ y) (hc0 : 0 ≤ c) (hc : c ≤ 1) (w : World) : (callFunc 45 #[.int .u64 x, .int .u64 y, .int .u64 c]).run Try.prog w =
    .ok (.value (.tuple #[.int .u64 ((x + y + c) % 18446744073709551616), .int .u64 ((x + y + c) / 18446744073709551616)])) w := by
  rw [run_callFunc_extern Try.func45 (by kernel_rfl) (by kernel_rfl) (by kernel_rfl) (e := add64Entry) (by kernel_rfl), run_add64 x y c hx hy hc0 hc]
  simp only [Result.andThen]
theorem sub64 (x y b : Int) (hx : 0 ≤ x) (hy : 0 ≤ y) (hy' : y < 18446744073709551616) (hb0 : 0 ≤ b) (hb : b ≤ 1) (w : World) : (callFunc 46 #[.int .u64 x, .int .u64 y, .int .u64 b]).run Try.prog w =
    .ok (.value (.tuple #[.int .u64 ((x - y - b) % 18446744073709551616), .int .u64 (if x < y + b then 1 else 0)])) w := by
  obtain ⟨x, rfl⟩ := Int.eq_ofNat_of_zero_le hx
  obtain ⟨y, rfl⟩ := Int.eq_ofNat_of_zero_le hy
  obtain ⟨b, rfl⟩ := Int.eq_ofNat_of_zero_le hb0
  have e1 : (((x + 18446744073709551616 - y - b) % 18446744073709551616 : Nat) : Int) = ((x : Int) - y - b) % 18446744073709551616 := by omega
  have e2 : ((if x < y + b then 1 else 0 : Nat) : Int) = if (x : Int) < y + b then 1 else 0 := by split <;> split <;> omega
  rw [← e1, ← e2, run_callFunc_extern Try.func46 (by kernel_rfl) (by kernel_rfl) (by kernel_rfl) (e := sub64Entry) (by kernel_rfl), run_sub64 x y b (by omega)]
  rfl

/-- What the two hand back, under names: the low word and the carry. -/
def carry (s : Int) : Int := s / 18446744073709551616
def lowOf (s : Int) : Int := s % 18446744073709551616
def bor (x y : Int) : Int := if x < y then 1 else 0
theorem carry_le {x y c : Int} (hx : Word x) (hy : Word y) (_hc0 : 0 ≤ c) (hc : c ≤ 1) : carry (x + y + c) ≤ 1 := by
  have := hx.2; have := hy.2; unfold carry; omega
theorem carry_ge {x y c : Int} (hx : Word x) (hy : Word y) (hc0 : 0 ≤ c) : 0 ≤ carry (x + y + c) := by
  have := hx.1; have := hy.1; unfold carry; omega
theorem word_lowOf (s : Int) : Word (lowOf s) := word_mod s
theorem carry_low (s : Int) : carry s * 18446744073709551616 + lowOf s = s := by unfold carry lowOf; omega
theorem bor_ge (x y : Int) : 0 ≤ bor x y := by unfold bor; split <;> decide
theorem bor_le (x y : Int) : bor x y ≤ 1 := by unfold bor; split <;> decide
theorem bor_low {x y : Int} (hx : Word x) (hy0 : 0 ≤ y) (hy1 : y ≤ 18446744073709551616) : lowOf (x - y) = x - y + bor x y * 18446744073709551616 := by
  obtain ⟨_, _⟩ := hx
  unfold bor lowOf
  split <;> omega
theorem add64w (x y c : Int) (hx : Word x) (hy : Word y) (hc0 : 0 ≤ c) (hc : c ≤ 1) (w : World) : (callFunc 45 #[.int .u64 x, .int .u64 y, .int .u64 c]).run Try.prog w =
    .ok (.value (.tuple #[.int .u64 (lowOf (x + y + c)), .int .u64 (carry (x + y + c))])) w := add64 x y c hx.1 hy.1 hc0 hc w
theorem sub64w (x y b : Int) (hx : Word x) (hy : Word y) (hb0 : 0 ≤ b) (hb : b ≤ 1) (w : World) : (callFunc 46 #[.int .u64 x, .int .u64 y, .int .u64 b]).run Try.prog w =
    .ok (.value (.tuple #[.int .u64 (lowOf (x - (y + b))), .int .u64 (bor x (y + b))])) w := by
  have h := sub64 x y b hx.1 hy.1 hy.2 hb0 hb w
  rw [show x - y - b = x - (y + b) by omega] at h
  exact h

set_option maxHeartbeats 1000000 in
theorem mul64n (x y : Nat) (hx : x < 18446744073709551616) (hy : y < 18446744073709551616) (w : World) :
    Calls Try.prog 50 #[.int .u64 x, .int .u64 y] w fun e w' => e = .returned (.tuple #[.int .u64 ((x * y / 18446744073709551616 : Nat) : Int), .int .u64 ((x * y % 18446744073709551616 : Nat) : Int)]) ∧ w = w' := by
  obtain ⟨bd, bt, bw, hhi⟩ := Lib.mul64_hi x y hx hy
  have ba := Lib.half_mul_le (a := x / 4294967296) (b := y / 4294967296) (by omega) (by omega)
  have bb := Lib.half_mul_le (a := x / 4294967296) (b := y % 4294967296) (by omega) (by omega)
  have bc := Lib.half_mul_le (a := x % 4294967296) (b := y / 4294967296) (by omega) (by omega)
  have ba' : x / 4294967296 * (y / 4294967296) < 18446744073709551616 := by omega
  have bb' : x / 4294967296 * (y % 4294967296) < 18446744073709551616 := by omega
  have bc' : x % 4294967296 * (y / 4294967296) < 18446744073709551616 := by omega
  have bh1 : x / 4294967296 * (y / 4294967296) + (x / 4294967296 * (y % 4294967296) + x % 4294967296 * (y % 4294967296) / 4294967296) / 4294967296 < 18446744073709551616 := by omega
  have bh : x / 4294967296 * (y / 4294967296) + (x / 4294967296 * (y % 4294967296) + x % 4294967296 * (y % 4294967296) / 4294967296) / 4294967296 + ((x / 4294967296 * (y % 4294967296) + x % 4294967296 * (y % 4294967296) / 4294967296) % 4294967296 + x % 4294967296 * (y / 4294967296)) / 4294967296 < 18446744073709551616 := by omega
  go_enter Try.func50, Try.ntmps50
  go_wp2
  simp only [Mul64.maskN x hx, Mul64.maskN y hy, Mul64.divN, Mul64.mulN, Mul64.addN, Mul64.wrapN _ bd, Mul64.wrapN _ bb', Mul64.wrapN _ bt, Mul64.maskN _ bt, Mul64.wrapN _ bc', Mul64.wrapN _ bw, Mul64.wrapN _ ba', Mul64.wrapN _ bh1, Mul64.wrapN _ bh, Mul64.wrapM (x * y)]
  rw [hhi]
  go_ret2
  exact ⟨rfl, rfl⟩

/-- What Mul64 hands back. -/
def IsMul64 (x y : Int) (w : World) (e : Ending) (w' : World) : Prop :=
  ∃ h l : Int, Word h ∧ Word l ∧ V2 h l = x * y ∧ e = .returned (.tuple #[.int .u64 h, .int .u64 l]) ∧ w = w'
theorem mul64 (x y : Int) (hx : Word x) (hy : Word y) (w : World) : Calls Try.prog 50 #[.int .u64 x, .int .u64 y] w (IsMul64 x y w) := by
  obtain ⟨x, hx', rfl⟩ := word_nat hx
  obtain ⟨y, hy', rfl⟩ := word_nat hy
  refine (mul64n x y hx' hy' w).mono fun e w' ⟨he, hw⟩ => ⟨_, _, ?_, ?_, ?_, he, hw⟩
  · have : x * y < 18446744073709551616 * 18446744073709551616 := Nat.mul_lt_mul'' hx' hy'
    exact ⟨by omega, by omega⟩
  · exact ⟨by omega, by omega⟩
  · unfold V2
    have := Nat.div_add_mod (x * y) 18446744073709551616
    rw [← Int.natCast_mul]
    omega

/-- bits.Len64, at a word. -/
theorem len64 (x : Int) (h : Word x) (w : World) : Calls Try.prog 49 #[.int .u64 x] w fun e w' => e = .returned (.int .i64 (Lib.bitLen x.toNat)) ∧ w = w' :=
  len64b x w h.1 (by have := h.2; omega)
end Go.Proofs.Ytbpgallhlfjgjaa
