/-
  Floats as words: what the 64 bits mean, and the contracts of the plain functions of layer 4 and of its reference. Conditions: the float is a word.
-/
import Derived.Test.YtdjhpplcdkgfgaaDoorBase
namespace Go.Proofs.YtdjhpplcdkgfgaaDoor
open Go.RowKit
set_option maxRecDepth 100000

/-- Sign, EXP and FRAC. -/
def fS (f : Int) : Bool := decide (9223372036854775808 ≤ f)
def fE (f : Int) : Int := f / 4503599627370496 % 2048
def fM (f : Int) : Int := f % 4503599627370496
/-- What a float is. -/
def fC (f : Int) : Int := if fE f = 2047 then (if fM f = 0 then 3 else 4) else if fE f = 0 then (if fM f = 0 then 0 else 1) else 2

theorem and63 {f : Int} (h : Word f) : bits BinOp.and IntKind.u64 f 9223372036854775808 = if 9223372036854775808 ≤ f then 9223372036854775808 else 0 := by
  obtain ⟨h0, h1⟩ := h
  obtain ⟨k, rfl⟩ := Int.eq_ofNat_of_zero_le h0
  have := bits_and_u64_nat k 9223372036854775808 (by omega) (by omega)
  refine this.trans ?_
  have e : k &&& 2 ^ 63 = 2 ^ 63 * (k / 2 ^ 63 % 2) := by
    apply Nat.eq_of_testBit_eq
    intro i
    rw [Nat.testBit_and, Nat.testBit_two_pow, Nat.testBit_two_pow_mul]
    by_cases hi : i = 63
    · subst hi; simp [Nat.testBit_eq_decide_div_mod_eq]
    · by_cases h2 : 63 ≤ i
      · have : k / 2 ^ 63 % 2 < 2 ^ (i - 63) := Nat.lt_of_lt_of_le (Nat.mod_lt _ (by decide)) (by
          have := Nat.pow_le_pow_right (n := 2) (by decide) (show 1 ≤ i - 63 by omega)
          omega)
        rw [Nat.testBit_lt_two_pow this, decide_eq_false (show ¬ 63 = i by omega), Bool.and_false, Bool.and_false]
      · rw [decide_eq_false (show ¬ 63 = i by omega), decide_eq_false (show ¬ i ≥ 63 by omega), Bool.and_false, Bool.false_and]
  rw [show (9223372036854775808 : Nat) = 2 ^ 63 by decide, e]
  split <;> omega
theorem andlow {f : Int} (h : Word f) : bits BinOp.and IntKind.u64 f 4503599627370495 = f % 4503599627370496 := by
  obtain ⟨h0, h1⟩ := h
  obtain ⟨k, rfl⟩ := Int.eq_ofNat_of_zero_le h0
  refine (bits_and_u64_nat k 4503599627370495 (by omega) (by omega)).trans ?_
  rw [show (4503599627370495 : Nat) = 2 ^ 52 - 1 by decide, Nat.and_two_pow_sub_one_eq_mod]
  omega
theorem and2047 {f : Int} (h : Word f) : bits BinOp.and IntKind.u64 f 2047 = f % 2048 := by
  obtain ⟨h0, h1⟩ := h
  obtain ⟨k, rfl⟩ := Int.eq_ofNat_of_zero_le h0
  refine (bits_and_u64_nat k 2047 (by omega) (by omega)).trans ?_
  rw [show (2047 : Nat) = 2 ^ 11 - 1 by decide, Nat.and_two_pow_sub_one_eq_mod]
  omega
theorem or63 {f : Int} (h0 : 0 ≤ f) (h1 : f < 9223372036854775808) : bits BinOp.or IntKind.u64 f 9223372036854775808 = f + 9223372036854775808 := by
  obtain ⟨k, rfl⟩ := Int.eq_ofNat_of_zero_le h0
  refine (bits_or_u64_nat k 9223372036854775808 (by omega) (by omega)).trans ?_
  have := Nat.two_pow_add_eq_or_of_lt (i := 63) (b := k) (by omega) 1
  rw [Nat.or_comm, show (9223372036854775808 : Nat) = 2 ^ 63 * 1 by decide, ← this]
  omega
theorem or52 {e m : Int} (h0 : 0 ≤ e) (h1 : e < 4096) (h2 : 0 ≤ m) (h3 : m < 4503599627370496) : bits BinOp.or IntKind.u64 (e * 4503599627370496) m = e * 4503599627370496 + m := by
  obtain ⟨k, rfl⟩ := Int.eq_ofNat_of_zero_le h0
  obtain ⟨j, rfl⟩ := Int.eq_ofNat_of_zero_le h2
  have := bits_or_u64_nat (k * 4503599627370496) j (by omega) (by omega)
  rw [Int.natCast_mul] at this
  refine this.trans ?_
  have e2 := Nat.two_pow_add_eq_or_of_lt (i := 52) (b := j) (by omega) k
  rw [show k * 4503599627370496 = 2 ^ 52 * k by omega, ← e2]
  omega
theorem or52one {m : Int} (h2 : 0 ≤ m) (h3 : m < 4503599627370496) : bits BinOp.or IntKind.u64 4503599627370496 m = 4503599627370496 + m := by
  have := or52 (e := 1) (by omega) (by omega) h2 h3
  rw [Int.one_mul] at this
  exact this

theorem bits_xor_u64_nat (a b : Nat) (ha : a < 18446744073709551616) (hb : b < 18446744073709551616) :
    bits .xor .u64 (a : Int) (b : Int) = ((a ^^^ b : Nat) : Int) := by
  have hx : a ^^^ b < 2 ^ 64 := Nat.xor_lt_two_pow (by omega) (by omega)
  have h1 : (BitVec.ofInt 64 (a : Int)).toNat = a := by
    rw [BitVec.ofInt_natCast, BitVec.toNat_ofNat]; exact Nat.mod_eq_of_lt (by omega)
  have h2 : (BitVec.ofInt 64 (b : Int)).toNat = b := by
    rw [BitVec.ofInt_natCast, BitVec.toNat_ofNat]; exact Nat.mod_eq_of_lt (by omega)
  show IntKind.u64.wrap ((BitVec.ofInt 64 (a : Int) ^^^ BitVec.ofInt 64 (b : Int)).toNat : Int) = _
  rw [BitVec.toNat_xor, h1, h2, IntKind.wrap_u64]
  omega
theorem xor63 {f : Int} (h : Word f) : bits BinOp.xor IntKind.u64 f 9223372036854775808 = if 9223372036854775808 ≤ f then f - 9223372036854775808 else f + 9223372036854775808 := by
  obtain ⟨h0, h1⟩ := h
  obtain ⟨k, rfl⟩ := Int.eq_ofNat_of_zero_le h0
  refine (bits_xor_u64_nat k 9223372036854775808 (by omega) (by omega)).trans ?_
  have e : k ^^^ 2 ^ 63 = 2 ^ 63 * (1 - k / 2 ^ 63) + k % 2 ^ 63 := by
    rw [Nat.two_pow_add_eq_or_of_lt (Nat.mod_lt _ (by decide))]
    apply Nat.eq_of_testBit_eq
    intro i
    rw [Nat.testBit_xor, Nat.testBit_or, Nat.testBit_two_pow, Nat.testBit_two_pow_mul, Nat.testBit_mod_two_pow]
    by_cases hi : i < 63
    · rw [decide_eq_false (show ¬ 63 = i by omega), decide_eq_false (show ¬ i ≥ 63 by omega), decide_eq_true hi, Bool.xor_false, Bool.false_and, Bool.false_or, Bool.true_and]
    · by_cases h3 : i = 63
      · subst h3
        have : k / 2 ^ 63 < 2 := by omega
        rw [Nat.testBit_eq_decide_div_mod_eq]
        have h4 : k / 2 ^ 63 = 0 ∨ k / 2 ^ 63 = 1 := by omega
        rcases h4 with h4 | h4 <;> rw [h4] <;> decide
      · have h5 : k < 2 ^ i := Nat.lt_of_lt_of_le (show k < 2 ^ 64 by omega) (Nat.pow_le_pow_right (by decide) (by omega))
        rw [Nat.testBit_lt_two_pow h5]
        have h6 : 1 - k / 2 ^ 63 < 2 ^ (i - 63) := Nat.lt_of_lt_of_le (show _ < 2 by omega) (by
          have := Nat.pow_le_pow_right (n := 2) (by decide) (show 1 ≤ i - 63 by omega)
          omega)
        rw [Nat.testBit_lt_two_pow h6, decide_eq_false (show ¬ 63 = i by omega), decide_eq_false hi, Bool.and_false, Bool.false_and]
        rfl
  rw [show (9223372036854775808 : Nat) = 2 ^ 63 by decide, e]
  split <;> omega
theorem nand63 {f : Int} (h : Word f) : bits BinOp.andNot IntKind.u64 f 9223372036854775808 = f % 9223372036854775808 := by
  obtain ⟨h0, h1⟩ := h
  obtain ⟨k, rfl⟩ := Int.eq_ofNat_of_zero_le h0
  have hk : (BitVec.ofInt 64 (k : Int)).toNat = k := by
    rw [BitVec.ofInt_natCast, BitVec.toNat_ofNat]; exact Nat.mod_eq_of_lt (by omega)
  show IntKind.u64.wrap ((BitVec.ofInt 64 (k : Int) &&& ~~~ BitVec.ofInt 64 (9223372036854775808 : Int)).toNat : Int) = _
  rw [BitVec.toNat_and, hk, show (~~~ BitVec.ofInt 64 (9223372036854775808 : Int)).toNat = 2 ^ 63 - 1 by decide, Nat.and_two_pow_sub_one_eq_mod, IntKind.wrap_u64]
  omega

theorem sign_bit {f : Int} (h : Word f) : (bits BinOp.and IntKind.u64 f 9223372036854775808 != 0) = fS f := by
  rw [and63 h]
  unfold fS
  split <;> rename_i h1
  · rw [decide_eq_true h1]; rfl
  · rw [decide_eq_false h1]; rfl
theorem exp_bd {f : Int} : 0 ≤ fE f ∧ fE f < 2048 := by unfold fE; omega
theorem frac_bd {f : Int} : 0 ≤ fM f ∧ fM f < 4503599627370496 := by unfold fM; omega
theorem word_exp {f : Int} (h : Word f) : Word (f / 4503599627370496) := by obtain ⟨h0, h1⟩ := h; constructor <;> omega
theorem wrap64_in {a : Int} (h0 : -9223372036854775808 ≤ a) (h1 : a ≤ 9223372036854775807) : wrap64 a = a := IntWalk.wrap64_in a ⟨h0, h1⟩
theorem exp_bits {f : Int} (h : Word f) : wrap64 (bits BinOp.and IntKind.u64 (f / 4503599627370496) 2047) = fE f := by
  have := exp_bd (f := f)
  rw [and2047 (word_exp h)]
  exact wrap64_in (a := fE f) (by omega) (by omega)

set_option maxHeartbeats 1000000 in
theorem parts_any (f : Int) (hf : Word f) (w : World) : Calls Tryd.prog 82 #[.int .u64 f] w fun e w' => e = .returned (.tuple #[.bool (fS f), .int .i64 (fE f), .int .u64 (fM f)]) ∧ w = w' := by
  go_enter Tryd.func82, Tryd.ntmps82
  go_wp2_with fail
  rw [sign_bit hf, exp_bits hf, andlow hf]
  go_ret3
  exact ⟨rfl, rfl⟩

theorem cls_bd (f : Int) : 0 ≤ fC f ∧ fC f ≤ 4 := by unfold fC; split <;> split <;> omega
theorem fC_inf {f : Int} (h1 : fE f = 2047) (h2 : fM f = 0) : fC f = 3 := by simp [fC, h1, h2]
theorem fC_nan {f : Int} (h1 : fE f = 2047) (h2 : fM f ≠ 0) : fC f = 4 := by simp [fC, h1, h2]
theorem fC_zero {f : Int} (h1 : fE f = 0) (h2 : fM f = 0) : fC f = 0 := by simp [fC, h1, h2]
theorem fC_sub {f : Int} (h1 : fE f = 0) (h2 : fM f ≠ 0) : fC f = 1 := by simp [fC, h1, h2]
theorem fC_norm {f : Int} (h1 : fE f ≠ 2047) (h2 : fE f ≠ 0) : fC f = 2 := by simp [fC, h1, h2]

set_option maxHeartbeats 1000000 in
theorem class_any (f : Int) (hf : Word f) (w : World) : Calls Tryd.prog 50 #[.int .u64 f] w fun e w' => e = .returned (.int .u8 (fC f)) ∧ w = w' := by
  by_cases h1 : fE f = 2047
  · by_cases h2 : fM f = 0
    · skip
      have HC := Lib.hid (fC_inf h1 h2)
      go_enter Tryd.func50, Tryd.ntmps50
      go_wp2_with fail
      refine (parts_any f hf _).mono ?_
      rintro e w1 ⟨rfl, rfl⟩
      rw [h1, h2]
      go_wp2_with fail
      go_ret
      exact ⟨ret_int HC.out.symm, rfl⟩
    · skip
      have HC := Lib.hid (fC_nan h1 h2)
      go_enter Tryd.func50, Tryd.ntmps50
      go_wp2_with fail
      refine (parts_any f hf _).mono ?_
      rintro e w1 ⟨rfl, rfl⟩
      rw [h1]
      go_wp2_with fail
      go_ret
      exact ⟨ret_int HC.out.symm, rfl⟩
  · by_cases h3 : fE f = 0
    · by_cases h2 : fM f = 0
      · skip
        have HC := Lib.hid (fC_zero h3 h2)
        go_enter Tryd.func50, Tryd.ntmps50
        go_wp2_with fail
        refine (parts_any f hf _).mono ?_
        rintro e w1 ⟨rfl, rfl⟩
        rw [h3, h2]
        go_wp2_with fail
        go_ret
        exact ⟨ret_int HC.out.symm, rfl⟩
      · skip
        have HC := Lib.hid (fC_sub h3 h2)
        go_enter Tryd.func50, Tryd.ntmps50
        go_wp2_with fail
        refine (parts_any f hf _).mono ?_
        rintro e w1 ⟨rfl, rfl⟩
        rw [h3]
        go_wp2_with fail
        go_ret
        exact ⟨ret_int HC.out.symm, rfl⟩
    · skip
      have HC := Lib.hid (fC_norm h1 h3)
      go_enter Tryd.func50, Tryd.ntmps50
      go_wp2_with fail
      refine (parts_any f hf _).mono ?_
      rintro e w1 ⟨rfl, rfl⟩
      go_wp2_with fail
      go_ret
      exact ⟨ret_int HC.out.symm, rfl⟩

theorem u64_tdiv {f c : Int} (h : Word f) (hc : 0 < c) : IntKind.u64.wrap (f.tdiv c) = f / c := by
  obtain ⟨h0, h1⟩ := h
  rw [Int.tdiv_eq_ediv_of_nonneg h0]
  have h2 : 0 ≤ f / c := Int.ediv_nonneg h0 (by omega)
  have h3 : f / c ≤ f := Int.ediv_le_self c h0
  exact IntWalk.u64_in _ ⟨h2, by omega⟩
theorem gsign_eq {f : Int} (h : Word f) : (IntKind.u64.wrap (f.tdiv 9223372036854775808) == 1) = fS f := by
  rw [u64_tdiv h (by decide)]
  obtain ⟨h0, h1⟩ := h
  unfold fS
  by_cases h2 : 9223372036854775808 ≤ f
  · rw [decide_eq_true h2, show f / 9223372036854775808 = 1 by omega]; rfl
  · rw [decide_eq_false h2, show f / 9223372036854775808 = 0 by omega]; rfl
theorem gexp_eq {f : Int} (h : Word f) : wrap64 ((IntKind.u64.wrap (f.tdiv 4503599627370496)).tmod 2048) = fE f := by
  have := exp_bd (f := f)
  rw [u64_tdiv h (by decide), Int.tmod_eq_emod_of_nonneg (word_exp h).1]
  exact wrap64_in (a := fE f) (by omega) (by omega)
set_option maxHeartbeats 1000000 in
theorem gparts_any (f : Int) (hf : Word f) (w : World) : Calls Tryd.prog 63 #[.int .u64 f] w fun e w' => e = .returned (.tuple #[.bool (fS f), .int .i64 (fE f), .int .u64 (fM f)]) ∧ w = w' := by
  go_enter Tryd.func63, Tryd.ntmps63
  go_wp2_with fail
  rw [gsign_eq hf, gexp_eq hf, Int.tmod_eq_emod_of_nonneg hf.1]
  go_ret3
  exact ⟨rfl, rfl⟩
set_option maxHeartbeats 1000000 in
theorem gclass_any (f : Int) (hf : Word f) (w : World) : Calls Tryd.prog 62 #[.int .u64 f] w fun e w' => e = .returned (.int .u8 (fC f)) ∧ w = w' := by
  by_cases h1 : fE f = 2047
  · by_cases h2 : fM f = 0
    · skip
      have HC := Lib.hid (fC_inf h1 h2)
      go_enter Tryd.func62, Tryd.ntmps62
      go_wp2_with fail
      refine (gparts_any f hf _).mono ?_
      rintro e w1 ⟨rfl, rfl⟩
      rw [h1, h2]
      go_wp2_with fail
      go_ret
      exact ⟨ret_int HC.out.symm, rfl⟩
    · skip
      have HC := Lib.hid (fC_nan h1 h2)
      go_enter Tryd.func62, Tryd.ntmps62
      go_wp2_with fail
      refine (gparts_any f hf _).mono ?_
      rintro e w1 ⟨rfl, rfl⟩
      rw [h1]
      go_wp2_with fail
      go_ret
      exact ⟨ret_int HC.out.symm, rfl⟩
  · by_cases h3 : fE f = 0
    · by_cases h2 : fM f = 0
      · skip
        have HC := Lib.hid (fC_zero h3 h2)
        go_enter Tryd.func62, Tryd.ntmps62
        go_wp2_with fail
        refine (gparts_any f hf _).mono ?_
        rintro e w1 ⟨rfl, rfl⟩
        rw [h3, h2]
        go_wp2_with fail
        go_ret
        exact ⟨ret_int HC.out.symm, rfl⟩
      · skip
        have HC := Lib.hid (fC_sub h3 h2)
        go_enter Tryd.func62, Tryd.ntmps62
        go_wp2_with fail
        refine (gparts_any f hf _).mono ?_
        rintro e w1 ⟨rfl, rfl⟩
        rw [h3]
        go_wp2_with fail
        go_ret
        exact ⟨ret_int HC.out.symm, rfl⟩
    · skip
      have HC := Lib.hid (fC_norm h1 h3)
      go_enter Tryd.func62, Tryd.ntmps62
      go_wp2_with fail
      refine (gparts_any f hf _).mono ?_
      rintro e w1 ⟨rfl, rfl⟩
      go_wp2_with fail
      go_ret
      exact ⟨ret_int HC.out.symm, rfl⟩

/-- The integer and the power of two that a float is. -/
def fX (f : Int) : Int := if fC f = 2 then 4503599627370496 + fM f else if fC f = 1 then fM f else 0
def fY (f : Int) : Int := if fC f = 2 then fE f - 1075 else if fC f = 1 then -1074 else 0
theorem fXY_norm {f : Int} (h : fC f = 2) : 4503599627370496 + fM f = fX f ∧ fE f - 1075 = fY f := by simp [fX, fY, h]
theorem fXY_sub {f : Int} (h : fC f = 1) : fM f = fX f ∧ -1074 = fY f := by simp [fX, fY, h]
theorem fXY_else {f : Int} (h1 : fC f ≠ 1) (h2 : fC f ≠ 2) : 0 = fX f ∧ 0 = fY f := by simp [fX, fY, h1, h2]
theorem ret_pair {k l : IntKind} {a b c d : Int} (h : a = c ∧ b = d) : Ending.returned (.tuple #[.int k a, .int l b]) = .returned (.tuple #[.int k c, .int l d]) := by rw [h.1, h.2]
set_option maxHeartbeats 1000000 in
theorem split_any (f : Int) (hf : Word f) (w : World) : Calls Tryd.prog 51 #[.int .u64 f] w fun e w' => e = .returned (.tuple #[.int .u64 (fX f), .int .i64 (fY f)]) ∧ w = w' := by
  have eb := exp_bd (f := f)
  obtain ⟨m0, m1⟩ := frac_bd (f := f)
  by_cases h2 : fC f = 2
  · have HC := Lib.hid (fXY_norm h2)
    go_enter Tryd.func51, Tryd.ntmps51
    go_wp2_with fail
    refine (parts_any f hf _).mono ?_
    rintro e w1 ⟨rfl, rfl⟩
    go_wp2_with fail
    refine (class_any f hf _).mono ?_
    rintro e w1 ⟨rfl, rfl⟩
    rw [h2]
    go_wp2_with fail
    rw [or52one m0 m1]
    go_ret2
    exact ⟨ret_pair HC.out, rfl⟩
  · by_cases h1 : fC f = 1
    · have HC := Lib.hid (fXY_sub h1)
      go_enter Tryd.func51, Tryd.ntmps51
      go_wp2_with fail
      refine (parts_any f hf _).mono ?_
      rintro e w1 ⟨rfl, rfl⟩
      go_wp2_with fail
      refine (class_any f hf _).mono ?_
      rintro e w1 ⟨rfl, rfl⟩
      rw [h1]
      go_wp2_with fail
      go_ret2
      exact ⟨ret_pair HC.out, rfl⟩
    · have HC := Lib.hid (fXY_else h1 h2)
      go_enter Tryd.func51, Tryd.ntmps51
      go_wp2_with fail
      refine (parts_any f hf _).mono ?_
      rintro e w1 ⟨rfl, rfl⟩
      go_wp2_with fail
      refine (class_any f hf _).mono ?_
      rintro e w1 ⟨rfl, rfl⟩
      go_wp2_with fail
      go_ret2
      exact ⟨ret_pair HC.out, rfl⟩
set_option maxHeartbeats 1000000 in
theorem gsplit_any (f : Int) (hf : Word f) (w : World) : Calls Tryd.prog 29 #[.int .u64 f] w fun e w' => e = .returned (.tuple #[.int .u64 (fX f), .int .i64 (fY f)]) ∧ w = w' := by
  have eb := exp_bd (f := f)
  obtain ⟨m0, m1⟩ := frac_bd (f := f)
  by_cases h2 : fC f = 2
  · have HC := Lib.hid (fXY_norm h2)
    go_enter Tryd.func29, Tryd.ntmps29
    go_wp2_with fail
    refine (gparts_any f hf _).mono ?_
    rintro e w1 ⟨rfl, rfl⟩
    go_wp2_with fail
    refine (gclass_any f hf _).mono ?_
    rintro e w1 ⟨rfl, rfl⟩
    rw [h2]
    go_wp2_with fail
    go_ret2
    exact ⟨ret_pair HC.out, rfl⟩
  · by_cases h1 : fC f = 1
    · have HC := Lib.hid (fXY_sub h1)
      go_enter Tryd.func29, Tryd.ntmps29
      go_wp2_with fail
      refine (gparts_any f hf _).mono ?_
      rintro e w1 ⟨rfl, rfl⟩
      go_wp2_with fail
      refine (gclass_any f hf _).mono ?_
      rintro e w1 ⟨rfl, rfl⟩
      rw [h1]
      go_wp2_with fail
      go_ret2
      exact ⟨ret_pair HC.out, rfl⟩
    · have HC := Lib.hid (fXY_else h1 h2)
      go_enter Tryd.func29, Tryd.ntmps29
      go_wp2_with fail
      refine (gparts_any f hf _).mono ?_
      rintro e w1 ⟨rfl, rfl⟩
      go_wp2_with fail
      refine (gclass_any f hf _).mono ?_
      rintro e w1 ⟨rfl, rfl⟩
      go_wp2_with fail
      go_ret2
      exact ⟨ret_pair HC.out, rfl⟩
end Go.Proofs.YtdjhpplcdkgfgaaDoor
