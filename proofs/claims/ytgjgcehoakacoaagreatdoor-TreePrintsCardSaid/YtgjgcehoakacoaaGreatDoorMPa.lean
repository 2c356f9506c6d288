/-
  Floats as words: what the 64 bits mean, and the contracts of the plain functions of layer 4 and of its reference. Conditions: the float is a word.
  Contracts of layer 4's functions that make and compare floats, and of the reference's. Conditions: floats are words.
  Contracts of layer 4's neighbours and signs, and of the reference's. Conditions: floats are words.
-/
import Derived.Test.YtgjgcehoakacoaaGreatDoorBase
namespace Go.Proofs.YtgjgcehoakacoaaGreatDoor
open Go.RowKit
set_option maxRecDepth 100000

/-- Sign, EXP and FRAC. -/
def fS (f : Int) : Bool := decide (9223372036854775808 ≤ f)
def fE (f : Int) : Int := f / 4503599627370496 % 2048
def fM (f : Int) : Int := f % 4503599627370496
/-- What a float is. -/
def fC (f : Int) : Int := if fE f = 2047 then (if fM f = 0 then 3 else 4) else if fE f = 0 then (if fM f = 0 then 0 else 1) else 2

theorem and63 {f : Int} (h : Word f) : bits BinOp.and IntKind.u64 f 9223372036854775808 = if 9223372036854775808 ≤ f then 9223372036854775808 else 0 := by
  obtain ⟨h0, h1⟩ := h
  obtain ⟨k, rfl⟩ := Int.eq_ofNat_of_zero_le h0
  have := bits_and_u64_nat k 9223372036854775808 (by omega) (by omega)
  refine this.trans ?_
  have e : k &&& 2 ^ 63 = 2 ^ 63 * (k / 2 ^ 63 % 2) := by
    apply Nat.eq_of_testBit_eq
    intro i
    rw [Nat.testBit_and, Nat.testBit_two_pow, Nat.testBit_two_pow_mul]
    by_cases hi : i = 63
    · subst hi; simp [Nat.testBit_eq_decide_div_mod_eq]
    · by_cases h2 : 63 ≤ i
      · have : k / 2 ^ 63 % 2 < 2 ^ (i - 63) := Nat.lt_of_lt_of_le (Nat.mod_lt _ (by decide)) (by
          have := Nat.pow_le_pow_right (n := 2) (by decide) (show 1 ≤ i - 63 by omega)
          omega)
        rw [Nat.testBit_lt_two_pow this, decide_eq_false (show ¬ 63 = i by omega), Bool.and_false, Bool.and_false]
      · rw [decide_eq_false (show ¬ 63 = i by omega), decide_eq_false (show ¬ i ≥ 63 by omega), Bool.and_false, Bool.false_and]
  rw [show (9223372036854775808 : Nat) = 2 ^ 63 by decide, e]
  split <;> omega
theorem andlow {f : Int} (h : Word f) : bits BinOp.and IntKind.u64 f 4503599627370495 = f % 4503599627370496 := by
  obtain ⟨h0, h1⟩ := h
  obtain ⟨k, rfl⟩ := Int.eq_ofNat_of_zero_le h0
  refine (bits_and_u64_nat k 4503599627370495 (by omega) (by omega)).trans ?_
  rw [show (4503599627370495 : Nat) = 2 ^ 52 - 1 by decide, Nat.and_two_pow_sub_one_eq_mod]
  omega
theorem and2047 {f : Int} (h : Word f) : bits BinOp.and IntKind.u64 f 2047 = f % 2048 := by
  obtain ⟨h0, h1⟩ := h
  obtain ⟨k, rfl⟩ := Int.eq_ofNat_of_zero_le h0
  refine (bits_and_u64_nat k 2047 (by omega) (by omega)).trans ?_
  rw [show (2047 : Nat) = 2 ^ 11 - 1 by decide, Nat.and_two_pow_sub_one_eq_mod]
  omega
theorem or63 {f : Int} (h0 : 0 ≤ f) (h1 : f < 9223372036854775808) : bits BinOp.or IntKind.u64 f 9223372036854775808 = f + 9223372036854775808 := by
  obtain ⟨k, rfl⟩ := Int.eq_ofNat_of_zero_le h0
  refine (bits_or_u64_nat k 9223372036854775808 (by omega) (by omega)).trans ?_
  have := Nat.two_pow_add_eq_or_of_lt (i := 63) (b := k) (by omega) 1
  rw [Nat.or_comm, show (9223372036854775808 : Nat) = 2 ^ 63 * 1 by decide, ← this]
  omega
theorem or52 {e m : Int} (h0 : 0 ≤ e) (h1 : e < 4096) (h2 : 0 ≤ m) (h3 : m < 4503599627370496) : bits BinOp.or IntKind.u64 (e * 4503599627370496) m = e * 4503599627370496 + m := by
  obtain ⟨k, rfl⟩ := Int.eq_ofNat_of_zero_le h0
  obtain ⟨j, rfl⟩ := Int.eq_ofNat_of_zero_le h2
  have := bits_or_u64_nat (k * 4503599627370496) j (by omega) (by omega)
  rw [Int.natCast_mul] at this
  refine this.trans ?_
  have e2 := Nat.two_pow_add_eq_or_of_lt (i := 52) (b := j) (by omega) k
  rw [show k * 4503599627370496 = 2 ^ 52 * k by omega, ← e2]
  omega
theorem or52one {m : Int} (h2 : 0 ≤ m) (h3 : m < 4503599627370496) : bits BinOp.or IntKind.u64 4503599627370496 m = 4503599627370496 + m := by
  have := or52 (e := 1) (by omega) (by omega) h2 h3
  rw [Int.one_mul] at this
  exact this

theorem bits_xor_u64_nat (a b : Nat) (ha : a < 18446744073709551616) (hb : b < 18446744073709551616) :
    bits .xor .u64 (a : Int) (b : Int) = ((a ^^^ b : Nat) : Int) := by
  have hx : a ^^^ b < 2 ^ 64 := Nat.xor_lt_two_pow (by omega) (by omega)
  have h1 : (BitVec.ofInt 64 (a : Int)).toNat = a := by
    rw [BitVec.ofInt_natCast, BitVec.toNat_ofNat]; exact Nat.mod_eq_of_lt (by omega)
  have h2 : (BitVec.ofInt 64 (b : Int)).toNat = b := by
    rw [BitVec.ofInt_natCast, BitVec.toNat_ofNat]; exact Nat.mod_eq_of_lt (by omega)
  show IntKind.u64.wrap ((BitVec.ofInt 64 (a : Int) ^^^ BitVec.ofInt 64 (b : Int)).toNat : Int) = _
  rw [BitVec.toNat_xor, h1, h2, IntKind.wrap_u64]
  omega
theorem xor63 {f : Int} (h : Word f) : bits BinOp.xor IntKind.u64 f 9223372036854775808 = if 9223372036854775808 ≤ f then f - 9223372036854775808 else f + 9223372036854775808 := by
  obtain ⟨h0, h1⟩ := h
  obtain ⟨k, rfl⟩ := Int.eq_ofNat_of_zero_le h0
  refine (bits_xor_u64_nat k 9223372036854775808 (by omega) (by omega)).trans ?_
  have e : k ^^^ 2 ^ 63 = 2 ^ 63 * (1 - k / 2 ^ 63) + k % 2 ^ 63 := by
    rw [Nat.two_pow_add_eq_or_of_lt (Nat.mod_lt _ (by decide))]
    apply Nat.eq_of_testBit_eq
    intro i
    rw [Nat.testBit_xor, Nat.testBit_or, Nat.testBit_two_pow, Nat.testBit_two_pow_mul, Nat.testBit_mod_two_pow]
    by_cases hi : i < 63
    · rw [decide_eq_false (show ¬ 63 = i by omega), decide_eq_false (show ¬ i ≥ 63 by omega), decide_eq_true hi, Bool.xor_false, Bool.false_and, Bool.false_or, Bool.true_and]
    · by_cases h3 : i = 63
      · subst h3
        have : k / 2 ^ 63 < 2 := by omega
        rw [Nat.testBit_eq_decide_div_mod_eq]
        have h4 : k / 2 ^ 63 = 0 ∨ k / 2 ^ 63 = 1 := by omega
        rcases h4 with h4 | h4 <;> rw [h4] <;> decide
      · have h5 : k < 2 ^ i := Nat.lt_of_lt_of_le (show k < 2 ^ 64 by omega) (Nat.pow_le_pow_right (by decide) (by omega))
        rw [Nat.testBit_lt_two_pow h5]
        have h6 : 1 - k / 2 ^ 63 < 2 ^ (i - 63) := Nat.lt_of_lt_of_le (show _ < 2 by omega) (by
          have := Nat.pow_le_pow_right (n := 2) (by decide) (show 1 ≤ i - 63 by omega)
          omega)
        rw [Nat.testBit_lt_two_pow h6, decide_eq_false (show ¬ 63 = i by omega), decide_eq_false hi, Bool.and_false, Bool.false_and]
        rfl
  rw [show (9223372036854775808 : Nat) = 2 ^ 63 by decide, e]
  split <;> omega
theorem nand63 {f : Int} (h : Word f) : bits BinOp.andNot IntKind.u64 f 9223372036854775808 = f % 9223372036854775808 := by
  obtain ⟨h0, h1⟩ := h
  obtain ⟨k, rfl⟩ := Int.eq_ofNat_of_zero_le h0
  have hk : (BitVec.ofInt 64 (k : Int)).toNat = k := by
    rw [BitVec.ofInt_natCast, BitVec.toNat_ofNat]; exact Nat.mod_eq_of_lt (by omega)
  show IntKind.u64.wrap ((BitVec.ofInt 64 (k : Int) &&& ~~~ BitVec.ofInt 64 (9223372036854775808 : Int)).toNat : Int) = _
  rw [BitVec.toNat_and, hk, show (~~~ BitVec.ofInt 64 (9223372036854775808 : Int)).toNat = 2 ^ 63 - 1 by decide, Nat.and_two_pow_sub_one_eq_mod, IntKind.wrap_u64]
  omega

theorem sign_bit {f : Int} (h : Word f) : (bits BinOp.and IntKind.u64 f 9223372036854775808 != 0) = fS f := by
  rw [and63 h]
  unfold fS
  split <;> rename_i h1
  · rw [decide_eq_true h1]; rfl
  · rw [decide_eq_false h1]; rfl
theorem exp_bd {f : Int} : 0 ≤ fE f ∧ fE f < 2048 := by unfold fE; omega
theorem frac_bd {f : Int} : 0 ≤ fM f ∧ fM f < 4503599627370496 := by unfold fM; omega
theorem word_exp {f : Int} (h : Word f) : Word (f / 4503599627370496) := by obtain ⟨h0, h1⟩ := h; constructor <;> omega
theorem wrap64_in {a : Int} (h0 : -9223372036854775808 ≤ a) (h1 : a ≤ 9223372036854775807) : wrap64 a = a := IntWalk.wrap64_in a ⟨h0, h1⟩
theorem exp_bits {f : Int} (h : Word f) : wrap64 (bits BinOp.and IntKind.u64 (f / 4503599627370496) 2047) = fE f := by
  have := exp_bd (f := f)
  rw [and2047 (word_exp h)]
  exact wrap64_in (a := fE f) (by omega) (by omega)

set_option maxHeartbeats 1000000 in
theorem parts_any (f : Int) (hf : Word f) (w : World) : Calls Tryz.prog 25 #[.int .u64 f] w fun e w' => e = .returned (.tuple #[.bool (fS f), .int .i64 (fE f), .int .u64 (fM f)]) ∧ w = w' := by
  go_enter Tryz.func25, Tryz.ntmps25
  go_wp2_with fail
  rw [sign_bit hf, exp_bits hf, andlow hf]
  go_ret3
  exact ⟨rfl, rfl⟩

theorem cls_bd (f : Int) : 0 ≤ fC f ∧ fC f ≤ 4 := by unfold fC; split <;> split <;> omega
theorem fC_inf {f : Int} (h1 : fE f = 2047) (h2 : fM f = 0) : fC f = 3 := by simp [fC, h1, h2]
theorem fC_nan {f : Int} (h1 : fE f = 2047) (h2 : fM f ≠ 0) : fC f = 4 := by simp [fC, h1, h2]
theorem fC_zero {f : Int} (h1 : fE f = 0) (h2 : fM f = 0) : fC f = 0 := by simp [fC, h1, h2]
theorem fC_sub {f : Int} (h1 : fE f = 0) (h2 : fM f ≠ 0) : fC f = 1 := by simp [fC, h1, h2]
theorem fC_norm {f : Int} (h1 : fE f ≠ 2047) (h2 : fE f ≠ 0) : fC f = 2 := by simp [fC, h1, h2]

set_option maxHeartbeats 1000000 in
theorem class_any (f : Int) (hf : Word f) (w : World) : Calls Tryz.prog 26 #[.int .u64 f] w fun e w' => e = .returned (.int .u8 (fC f)) ∧ w = w' := by
  by_cases h1 : fE f = 2047
  · by_cases h2 : fM f = 0
    · skip
      have HC := Lib.hid (fC_inf h1 h2)
      go_enter Tryz.func26, Tryz.ntmps26
      go_wp2_with fail
      refine (parts_any f hf _).mono ?_
      rintro e w1 ⟨rfl, rfl⟩
      rw [h1, h2]
      go_wp2_with fail
      go_ret
      exact ⟨ret_int HC.out.symm, rfl⟩
    · skip
      have HC := Lib.hid (fC_nan h1 h2)
      go_enter Tryz.func26, Tryz.ntmps26
      go_wp2_with fail
      refine (parts_any f hf _).mono ?_
      rintro e w1 ⟨rfl, rfl⟩
      rw [h1]
      go_wp2_with fail
      go_ret
      exact ⟨ret_int HC.out.symm, rfl⟩
  · by_cases h3 : fE f = 0
    · by_cases h2 : fM f = 0
      · skip
        have HC := Lib.hid (fC_zero h3 h2)
        go_enter Tryz.func26, Tryz.ntmps26
        go_wp2_with fail
        refine (parts_any f hf _).mono ?_
        rintro e w1 ⟨rfl, rfl⟩
        rw [h3, h2]
        go_wp2_with fail
        go_ret
        exact ⟨ret_int HC.out.symm, rfl⟩
      · skip
        have HC := Lib.hid (fC_sub h3 h2)
        go_enter Tryz.func26, Tryz.ntmps26
        go_wp2_with fail
        refine (parts_any f hf _).mono ?_
        rintro e w1 ⟨rfl, rfl⟩
        rw [h3]
        go_wp2_with fail
        go_ret
        exact ⟨ret_int HC.out.symm, rfl⟩
    · skip
      have HC := Lib.hid (fC_norm h1 h3)
      go_enter Tryz.func26, Tryz.ntmps26
      go_wp2_with fail
      refine (parts_any f hf _).mono ?_
      rintro e w1 ⟨rfl, rfl⟩
      go_wp2_with fail
      go_ret
      exact ⟨ret_int HC.out.symm, rfl⟩

theorem u64_tdiv {f c : Int} (h : Word f) (hc : 0 < c) : IntKind.u64.wrap (f.tdiv c) = f / c := by
  obtain ⟨h0, h1⟩ := h
  rw [Int.tdiv_eq_ediv_of_nonneg h0]
  have h2 : 0 ≤ f / c := Int.ediv_nonneg h0 (by omega)
  have h3 : f / c ≤ f := Int.ediv_le_self c h0
  exact IntWalk.u64_in _ ⟨h2, by omega⟩
theorem gsign_eq {f : Int} (h : Word f) : (IntKind.u64.wrap (f.tdiv 9223372036854775808) == 1) = fS f := by
  rw [u64_tdiv h (by decide)]
  obtain ⟨h0, h1⟩ := h
  unfold fS
  by_cases h2 : 9223372036854775808 ≤ f
  · rw [decide_eq_true h2, show f / 9223372036854775808 = 1 by omega]; rfl
  · rw [decide_eq_false h2, show f / 9223372036854775808 = 0 by omega]; rfl
theorem gexp_eq {f : Int} (h : Word f) : wrap64 ((IntKind.u64.wrap (f.tdiv 4503599627370496)).tmod 2048) = fE f := by
  have := exp_bd (f := f)
  rw [u64_tdiv h (by decide), Int.tmod_eq_emod_of_nonneg (word_exp h).1]
  exact wrap64_in (a := fE f) (by omega) (by omega)
/-- The integer and the power of two that a float is. -/
def fX (f : Int) : Int := if fC f = 2 then 4503599627370496 + fM f else if fC f = 1 then fM f else 0
def fY (f : Int) : Int := if fC f = 2 then fE f - 1075 else if fC f = 1 then -1074 else 0
theorem fXY_norm {f : Int} (h : fC f = 2) : 4503599627370496 + fM f = fX f ∧ fE f - 1075 = fY f := by simp [fX, fY, h]
theorem fXY_sub {f : Int} (h : fC f = 1) : fM f = fX f ∧ -1074 = fY f := by simp [fX, fY, h]
theorem fXY_else {f : Int} (h1 : fC f ≠ 1) (h2 : fC f ≠ 2) : 0 = fX f ∧ 0 = fY f := by simp [fX, fY, h1, h2]
theorem ret_pair {k l : IntKind} {a b c d : Int} (h : a = c ∧ b = d) : Ending.returned (.tuple #[.int k a, .int l b]) = .returned (.tuple #[.int k c, .int l d]) := by rw [h.1, h.2]
set_option maxHeartbeats 1000000 in
theorem split_any (f : Int) (hf : Word f) (w : World) : Calls Tryz.prog 69 #[.int .u64 f] w fun e w' => e = .returned (.tuple #[.int .u64 (fX f), .int .i64 (fY f)]) ∧ w = w' := by
  have eb := exp_bd (f := f)
  obtain ⟨m0, m1⟩ := frac_bd (f := f)
  by_cases h2 : fC f = 2
  · have HC := Lib.hid (fXY_norm h2)
    go_enter Tryz.func69, Tryz.ntmps69
    go_wp2_with fail
    refine (parts_any f hf _).mono ?_
    rintro e w1 ⟨rfl, rfl⟩
    go_wp2_with fail
    refine (class_any f hf _).mono ?_
    rintro e w1 ⟨rfl, rfl⟩
    rw [h2]
    go_wp2_with fail
    rw [or52one m0 m1]
    go_ret2
    exact ⟨ret_pair HC.out, rfl⟩
  · by_cases h1 : fC f = 1
    · have HC := Lib.hid (fXY_sub h1)
      go_enter Tryz.func69, Tryz.ntmps69
      go_wp2_with fail
      refine (parts_any f hf _).mono ?_
      rintro e w1 ⟨rfl, rfl⟩
      go_wp2_with fail
      refine (class_any f hf _).mono ?_
      rintro e w1 ⟨rfl, rfl⟩
      rw [h1]
      go_wp2_with fail
      go_ret2
      exact ⟨ret_pair HC.out, rfl⟩
    · have HC := Lib.hid (fXY_else h1 h2)
      go_enter Tryz.func69, Tryz.ntmps69
      go_wp2_with fail
      refine (parts_any f hf _).mono ?_
      rintro e w1 ⟨rfl, rfl⟩
      go_wp2_with fail
      refine (class_any f hf _).mono ?_
      rintro e w1 ⟨rfl, rfl⟩
      go_wp2_with fail
      go_ret2
      exact ⟨ret_pair HC.out, rfl⟩
end Go.Proofs.YtgjgcehoakacoaaGreatDoor
namespace Go.Proofs.YtgjgcehoakacoaaGreatDoor
open Go.RowKit
set_option maxRecDepth 100000

def sg (s : Bool) : Int := if s then 9223372036854775808 else 0
theorem sg_bd (s : Bool) : 0 ≤ sg s ∧ sg s ≤ 9223372036854775808 := by cases s <;> decide
theorem withSign_any (s : Bool) (f : Int) (h0 : 0 ≤ f) (h1 : f < 9223372036854775808) (w : World) : Calls Tryz.prog 160 #[.bool s, .int .u64 f] w fun e w' => e = .returned (.int .u64 (f + sg s)) ∧ w = w' := by
  cases s
  · go_enter Tryz.func160, Tryz.ntmps160
    go_wp2_with fail
    go_ret
    exact ⟨ret_int (by simp [sg]), rfl⟩
  · go_enter Tryz.func160, Tryz.ntmps160
    go_wp2_with fail
    rw [or63 h0 h1]
    go_ret
    exact ⟨ret_int (by simp [sg]), rfl⟩

/-- The float with these parts. -/
def mkF (s : Bool) (e m : Int) : Int := e * 4503599627370496 + m + sg s
def mkOk (e m : Int) : Prop := 0 ≤ e ∧ e < 2048 ∧ m < 4503599627370496
instance (e m : Int) : Decidable (mkOk e m) := by unfold mkOk; infer_instance
theorem mkF_word {s : Bool} {e m : Int} (h : mkOk e m) (h0 : 0 ≤ m) : Word (mkF s e m) := by
  obtain ⟨h1, h2, h3⟩ := h
  have := sg_bd s
  unfold mkF
  constructor <;> omega
theorem mkF_parts {f : Int} (hf : Word f) : mkF (fS f) (fE f) (fM f) = f ∧ mkOk (fE f) (fM f) := by
  obtain ⟨h0, h1⟩ := hf
  unfold mkF fS fE fM mkOk sg
  by_cases h : 9223372036854775808 ≤ f
  · rw [decide_eq_true h]; simp only [if_true]; omega
  · rw [decide_eq_false h]; simp only [Bool.false_eq_true, if_false]; omega
set_option maxHeartbeats 1000000 in
theorem make_good (s : Bool) (e m : Int) (hm : Word m) (h : mkOk e m) (w : World) : Calls Tryz.prog 148 #[.bool s, .int .i64 e, .int .u64 m] w fun x w' => x = .returned (.tuple #[.int .u64 (mkF s e m), .int .i64 0]) ∧ w = w' := by
  obtain ⟨h1, h2, h3⟩ := h
  obtain ⟨m0, m1⟩ := hm
  have o := or52 (e := e) (m := m) h1 (by omega) m0 h3
  have HO := Lib.hid o
  clear o
  go_enter Tryz.func148, Tryz.ntmps148
  go_wp2_with fail
  rw [HO.out]
  refine (withSign_any s _ (by omega) (by omega) _).mono ?_
  rintro x w1 ⟨rfl, rfl⟩
  go_wp2_with fail
  go_ret2
  exact ⟨rfl, rfl⟩
set_option maxHeartbeats 1000000 in
theorem make_bad (s : Bool) (e m : Int) (hm : Word m) (h : ¬ mkOk e m) (w : World) : Calls Tryz.prog 148 #[.bool s, .int .i64 e, .int .u64 m] w fun x w' => x = .returned (.tuple #[.int .u64 0, .int .i64 1]) ∧ w = w' := by
  obtain ⟨m0, m1⟩ := hm
  unfold mkOk at h
  by_cases h1 : e < 0
  · go_enter Tryz.func148, Tryz.ntmps148
    go_wp2_with fail
    go_ret2
    exact ⟨rfl, rfl⟩
  · by_cases h2 : 2047 < e
    · go_enter Tryz.func148, Tryz.ntmps148
      go_wp2_with fail
      go_ret2
      exact ⟨rfl, rfl⟩
    · have h3 : 4503599627370496 ≤ m := by omega
      go_enter Tryz.func148, Tryz.ntmps148
      go_wp2_with fail
      go_ret2
      exact ⟨rfl, rfl⟩
theorem isNaN_any (f : Int) (hf : Word f) (w : World) : Calls Tryz.prog 68 #[.int .u64 f] w fun x w' => x = .returned (.bool (decide (fC f = 4))) ∧ w = w' := by
  go_enter Tryz.func68, Tryz.ntmps68
  go_wp2_with fail
  refine (class_any f hf _).mono ?_
  rintro e w1 ⟨rfl, rfl⟩
  go_wp2_with fail
  go_ret
  exact ⟨ret_bool (by by_cases h : fC f = 4 <;> simp [h]), rfl⟩
/-- Where a float stands in the order. -/
def fK (f : Int) : Int := if fS f then -(f % 9223372036854775808) else f % 9223372036854775808
theorem fK_bd (f : Int) : -9223372036854775808 < fK f ∧ fK f < 9223372036854775808 := by unfold fK; split <;> omega
theorem low63 {f : Int} (hf : Word f) : fE f * 4503599627370496 + fM f = f % 9223372036854775808 := by
  obtain ⟨h0, h1⟩ := hf
  unfold fE fM
  omega
/-- How floats compare; with a NaN there is no answer. -/
def fOk (a b : Int) : Bool := decide (fC a ≠ 4) && decide (fC b ≠ 4)
def fCmp (a b : Int) : Int := if fOk a b then cmpI (fK a) (fK b) else 0
theorem fOk_no1 {a b : Int} (h : fC a = 4) : fOk a b = false ∧ fCmp a b = 0 := by simp [fCmp, fOk, h]
theorem fOk_no2 {a b : Int} (h : fC b = 4) : fOk a b = false ∧ fCmp a b = 0 := by simp [fCmp, fOk, h]
theorem fOk_yes {a b : Int} (h1 : fC a ≠ 4) (h2 : fC b ≠ 4) : fOk a b = true ∧ fCmp a b = cmpI (fK a) (fK b) := by simp [fCmp, fOk, h1, h2]
theorem fCmp_bd (a b : Int) : -1 ≤ fCmp a b ∧ fCmp a b ≤ 1 := by
  have := cmpI_bd (fK a) (fK b)
  unfold fCmp
  split <;> omega
theorem ret_ib {k : IntKind} {a c : Int} {b d : Bool} (h1 : b = d) (h2 : a = c) : Ending.returned (.tuple #[.int k a, .bool b]) = .returned (.tuple #[.int k c, .bool d]) := by rw [h1, h2]
def fLt (a b : Int) : Bool := fOk a b && decide (fCmp a b < 0)
end Go.Proofs.YtgjgcehoakacoaaGreatDoor
namespace Go.Proofs.YtgjgcehoakacoaaGreatDoor
open Go.RowKit
set_option maxRecDepth 100000

def fNg (f : Int) : Int := if fC f = 4 then f else if fS f then f - 9223372036854775808 else f + 9223372036854775808
def fAb (f : Int) : Int := if fC f = 4 then f else f % 9223372036854775808
def fNx (f : Int) : Int := if fC f = 4 ∨ f = 9218868437227405312 then f else if f = 9223372036854775808 then 1 else if fS f then f - 1 else f + 1
def fPv (f : Int) : Int := fNg (fNx (fNg f))
/-- A NaN, by its bits. -/
theorem nan_iff {f : Int} (hf : Word f) : fC f = 4 ↔ 9218868437227405312 < f % 9223372036854775808 := by
  obtain ⟨h0, h1⟩ := hf
  unfold fC fE fM
  split
  · split <;> omega
  · split
    · split <;> omega
    · omega
theorem sgn_iff {f : Int} : fS f = true ↔ 9223372036854775808 ≤ f := by unfold fS; simp
theorem fNg_is {f : Int} (hf : Word f) : (9218868437227405312 < f % 9223372036854775808 → fNg f = f) ∧ (¬ 9218868437227405312 < f % 9223372036854775808 → (9223372036854775808 ≤ f → fNg f = f - 9223372036854775808) ∧ (f < 9223372036854775808 → fNg f = f + 9223372036854775808)) := by
  refine ⟨fun h => if_pos ((nan_iff hf).2 h), fun h => ?_⟩
  have e : fNg f = _ := if_neg (fun k => h ((nan_iff hf).1 k))
  refine ⟨fun k => e.trans (if_pos (sgn_iff.2 k)), fun k => e.trans (if_neg (fun j => ?_))⟩
  have := sgn_iff.1 j
  omega
theorem fNg_word {f : Int} (hf : Word f) : Word (fNg f) := by
  have h := fNg_is hf
  obtain ⟨h0, h1⟩ := hf
  by_cases k : 9218868437227405312 < f % 9223372036854775808
  · rw [h.1 k]; exact ⟨h0, h1⟩
  · by_cases j : 9223372036854775808 ≤ f
    · rw [(h.2 k).1 j]; constructor <;> omega
    · rw [(h.2 k).2 (by omega)]; constructor <;> omega
theorem fNx_is {f : Int} (hf : Word f) : (9218868437227405312 < f % 9223372036854775808 → fNx f = f) ∧ (f = 9218868437227405312 → fNx f = f) ∧ (f = 9223372036854775808 → fNx f = 1) ∧ (9223372036854775808 < f → f ≤ 18442240474082181120 → fNx f = f - 1) ∧ (f < 9218868437227405312 → fNx f = f + 1) := by
  have hn := nan_iff hf
  have hs := sgn_iff (f := f)
  obtain ⟨h0, h1⟩ := hf
  refine ⟨fun h => if_pos (.inl (hn.2 h)), fun h => if_pos (.inr h), fun h => ?_, fun h k => ?_, fun h => ?_⟩
  · have e : fNx f = _ := if_neg (by rw [hn]; omega)
    exact e.trans (if_pos h)
  · have e : fNx f = _ := if_neg (by rw [hn]; omega)
    exact e.trans ((if_neg (by omega)).trans (if_pos (hs.2 (by omega))))
  · have e : fNx f = _ := if_neg (by rw [hn]; omega)
    refine e.trans ((if_neg (by omega)).trans (if_neg (fun j => ?_)))
    have := hs.1 j
    omega
theorem fNx_word {f : Int} (hf : Word f) : Word (fNx f) := by
  have ⟨a, b, c, d, e⟩ := fNx_is hf
  obtain ⟨h0, h1⟩ := hf
  by_cases k : 9218868437227405312 < f % 9223372036854775808
  · rw [a k]; exact ⟨h0, h1⟩
  · by_cases k1 : f = 9218868437227405312
    · rw [b k1]; exact ⟨h0, h1⟩
    · by_cases k2 : f = 9223372036854775808
      · rw [c k2]; constructor <;> omega
      · by_cases k3 : 9223372036854775808 < f
        · rw [d k3 (by omega)]; constructor <;> omega
        · rw [e (by omega)]; constructor <;> omega
theorem fPv_word {f : Int} (hf : Word f) : Word (fPv f) := fNg_word (fNx_word (fNg_word hf))

set_option maxHeartbeats 1000000 in
theorem abs_f (f : Int) (hf : Word f) (w : World) : Calls Tryz.prog 47 #[.int .u64 f] w fun x w' => x = .returned (.int .u64 (fAb f)) ∧ w = w' := by
  have HX := Lib.hid (nand63 hf)
  by_cases h : fC f = 4
  · have HN : Hid (f = fAb f) := by show _ = _; simp [fAb, h]
    go_enter Tryz.func47, Tryz.ntmps47
    go_wp2_with fail
    refine (isNaN_any f hf _).mono ?_
    rw [decide_eq_true h]
    rintro e w1 ⟨rfl, rfl⟩
    go_wp2_with fail
    go_ret
    exact ⟨ret_int HN.out, rfl⟩
  · have HN : Hid (f % 9223372036854775808 = fAb f) := by show _ = _; simp [fAb, h]
    go_enter Tryz.func47, Tryz.ntmps47
    go_wp2_with fail
    refine (isNaN_any f hf _).mono ?_
    rw [decide_eq_false h]
    rintro e w1 ⟨rfl, rfl⟩
    go_wp2_with fail
    rw [HX.out, HN.out]
    go_ret
    exact ⟨rfl, rfl⟩
theorem inf_f (s : Bool) (w : World) : Calls Tryz.prog 152 #[.bool s] w fun x w' => x = .returned (.int .u64 (9218868437227405312 + sg s)) ∧ w = w' := by
  go_enter Tryz.func152, Tryz.ntmps152
  go_wp2_with fail
  refine (withSign_any s _ (by decide) (by decide) _).mono ?_
  rintro e w1 ⟨rfl, rfl⟩
  go_wp2_with fail
  go_ret
  exact ⟨rfl, rfl⟩
/-- The float of a place in the order; of 0 the nought with that sign. -/
def fOf (k : Int) (neg : Bool) : Int := if k < 0 ∨ (k = 0 ∧ neg = true) then -k + 9223372036854775808 else k
theorem ofs {k : Int} (h0 : 0 ≤ k) (h1 : k < 9223372036854775808) : mkOk (k / 4503599627370496) (k % 4503599627370496) ∧ Word (k % 4503599627370496) ∧ mkF true (k / 4503599627370496) (k % 4503599627370496) = k + 9223372036854775808 ∧ mkF false (k / 4503599627370496) (k % 4503599627370496) = k := by
  unfold mkOk Word mkF sg
  simp only [if_true, Bool.false_eq_true, if_false]
  omega
theorem of_neg {k : Int} (h : k ≤ 0) (h0 : -9223372036854775808 < k) : wrap64 (-k.tdiv 4503599627370496) = -k / 4503599627370496 ∧ IntKind.u64.wrap (-k.tmod 4503599627370496) = -k % 4503599627370496 := by
  have e1 : -k.tdiv 4503599627370496 = -k / 4503599627370496 := by
    rw [← Int.neg_tdiv, Int.tdiv_eq_ediv_of_nonneg (by omega)]
  have e2 : -k.tmod 4503599627370496 = -k % 4503599627370496 := by
    rw [← Int.neg_tmod, Int.tmod_eq_emod_of_nonneg (by omega)]
  rw [e1, e2]
  exact ⟨wrap64_in (by omega) (by omega), IntWalk.u64_in _ ⟨by omega, by omega⟩⟩
theorem fK_is {f : Int} (hf : Word f) : (f < 9223372036854775808 → fK f = f) ∧ (9223372036854775808 ≤ f → fK f = 9223372036854775808 - f) := by
  obtain ⟨h0, h1⟩ := hf
  refine ⟨fun h => ?_, fun h => ?_⟩
  · have : fS f = false := decide_eq_false (by omega)
    simp only [fK, this, Bool.false_eq_true, if_false]; omega
  · have : fS f = true := decide_eq_true h
    simp only [fK, this, if_true]; omega
theorem fNx_of {f : Int} (hf : Word f) (hn : fC f ≠ 4) (hk : fK f ≠ 9218868437227405312) : fOf (fK f + 1) (decide (fK f < 0)) = fNx f ∧ -9223372036854775808 < fK f + 1 ∧ fK f + 1 < 9223372036854775808 := by
  obtain ⟨k1, k2⟩ := fK_is hf
  obtain ⟨-, n2, n3, n4, n5⟩ := fNx_is hf
  have hq : ¬ 9218868437227405312 < f % 9223372036854775808 := fun k => hn ((nan_iff hf).2 k)
  obtain ⟨h0, h1⟩ := hf
  by_cases h : f < 9223372036854775808
  · rw [k1 h] at hk ⊢
    rw [n5 (by omega)]
    refine ⟨?_, by omega, by omega⟩
    exact if_neg (by omega)
  · have h2 : 9223372036854775808 ≤ f := by omega
    rw [k2 h2] at hk ⊢
    refine ⟨?_, by omega, by omega⟩
    by_cases h3 : f = 9223372036854775808
    · rw [n3 h3]; subst h3; decide
    · rw [n4 (by omega) (by omega)]
      have : fOf (9223372036854775808 - f + 1) (decide (9223372036854775808 - f < 0)) = -(9223372036854775808 - f + 1) + 9223372036854775808 := by
        refine if_pos ?_
        by_cases h4 : f = 9223372036854775809
        · right; subst h4; decide
        · left; omega
      rw [this]; omega
theorem fNx_inf {f : Int} (hf : Word f) (hk : fK f = 9218868437227405312) : fNx f = f := by
  obtain ⟨k1, k2⟩ := fK_is hf
  obtain ⟨-, n2, -, -, -⟩ := fNx_is hf
  obtain ⟨h0, h1⟩ := hf
  refine n2 ?_
  by_cases h : f < 9223372036854775808
  · rw [k1 h] at hk; exact hk
  · rw [k2 (by omega)] at hk; omega
theorem fNg_key {f : Int} (hf : Word f) (hn : fC f ≠ 4) : fC (fNg f) ≠ 4 ∧ fK (fNg f) = -fK f ∧ (fS (fNg f) = !fS f) ∧ fNg (fNg f) = f := by
  have hw := fNg_word hf
  obtain ⟨a1, a2⟩ := fNg_is hf
  have hq : ¬ 9218868437227405312 < f % 9223372036854775808 := fun k => hn ((nan_iff hf).2 k)
  obtain ⟨a3, a4⟩ := a2 hq
  obtain ⟨k1, k2⟩ := fK_is hf
  obtain ⟨k3, k4⟩ := fK_is hw
  obtain ⟨b1, b2⟩ := fNg_is hw
  rw [Ne, nan_iff hw]
  obtain ⟨h0, h1⟩ := hf
  by_cases h : 9223372036854775808 ≤ f
  · have e := a3 h
    rw [e] at k3 b2 ⊢
    clear hw a1 a2 a3 a4 b1 k4
    obtain ⟨b3, b4⟩ := b2 (by omega)
    rw [k3 (by omega), k2 h, b4 (by omega), show fS (f - 9223372036854775808) = false from decide_eq_false (by omega), show fS f = true from decide_eq_true h]
    refine ⟨by omega, by omega, rfl, by omega⟩
  · have e := a4 (by omega)
    rw [e] at k4 b2 ⊢
    clear hw a1 a2 a3 a4 b1 k3
    obtain ⟨b3, b4⟩ := b2 (by omega)
    rw [k4 (by omega), k1 (by omega), b3 (by omega), show fS (f + 9223372036854775808) = true from decide_eq_true (by omega), show fS f = false from decide_eq_false h]
    refine ⟨by omega, by omega, rfl, by omega⟩
theorem fNg_nan {f : Int} (hn : fC f = 4) : fNg f = f := if_pos hn
theorem fPv_of {f : Int} (hf : Word f) (hn : fC f ≠ 4) (hk : fK f ≠ -9218868437227405312) : fOf (fK f - 1) (decide (fK f ≤ 0)) = fPv f ∧ -9223372036854775808 < fK f - 1 ∧ fK f - 1 < 9223372036854775808 := by
  obtain ⟨c1, c2, -, -⟩ := fNg_key hf hn
  have w1 := fNg_word hf
  obtain ⟨d1, d2, d3⟩ := fNx_of w1 c1 (by rw [c2]; omega)
  rw [c2] at d1 d2 d3
  refine ⟨?_, by omega, by omega⟩
  unfold fPv
  rw [← d1]
  have w2 : Word (fOf (-fK f + 1) (decide (-fK f < 0))) := by rw [d1]; exact fNx_word w1
  have hb := fK_bd f
  have hq : ¬ 9218868437227405312 < f % 9223372036854775808 := fun k => hn ((nan_iff hf).2 k)
  obtain ⟨b1, b2⟩ := fNg_is w2
  obtain ⟨k1, k2⟩ := fK_is hf
  obtain ⟨h0, h1⟩ := hf
  unfold fOf at *
  have e1 : (-fK f + 1 < 0 ∨ (-fK f + 1 = 0 ∧ decide (-fK f < 0) = true)) ↔ 1 ≤ fK f := by simp; omega
  have e2 : (fK f - 1 < 0 ∨ (fK f - 1 = 0 ∧ decide (fK f ≤ 0) = true)) ↔ fK f ≤ 0 := by simp; omega
  simp only [e1, e2] at *
  by_cases h : 1 ≤ fK f
  · simp only [if_pos h, if_neg (show ¬ fK f ≤ 0 by omega)] at *
    obtain ⟨b3, b4⟩ := b2 (by by_cases h3 : f < 9223372036854775808 <;> omega)
    rw [b3 (by omega)]; omega
  · simp only [if_neg h, if_pos (show fK f ≤ 0 by omega)] at *
    obtain ⟨b3, b4⟩ := b2 (by by_cases h3 : f < 9223372036854775808 <;> omega)
    rw [b4 (by omega)]; omega
theorem fPv_inf {f : Int} (hf : Word f) (hn : fC f ≠ 4) (hk : fK f = -9218868437227405312) : fPv f = f := by
  obtain ⟨c1, c2, -, c4⟩ := fNg_key hf hn
  unfold fPv
  rw [fNx_inf (fNg_word hf) (by rw [c2]; omega), c4]
theorem fPv_nan {f : Int} (hn : fC f = 4) : fPv f = f := by
  have e : fNx f = f := if_pos (.inl hn)
  unfold fPv
  rw [fNg_nan hn, e, fNg_nan hn]
end Go.Proofs.YtgjgcehoakacoaaGreatDoor
