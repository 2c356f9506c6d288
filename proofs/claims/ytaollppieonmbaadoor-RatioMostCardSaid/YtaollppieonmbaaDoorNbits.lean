/-
  Contracts of math/bits.Add32, Sub32, Len, Len32, Len64, LeadingZeros32, Div32 and of cmp.Compare at int and uint32, as the program of this seat has them. Conditions: the arguments are words of 32 bits (of 64), a carry is 0 or 1; Div32's quotient fits.
-/
import Derived.Test.YtaollppieonmbaaDoorNat
import Derived.Test.YtaollppieonmbaaDoorNlen
namespace Go.Proofs.YtaollppieonmbaaDoor
open Go.RowKit

theorem isNaNInt_any (a : Int) (w : World) : Calls Tryd.prog 70 #[.int .i64 a] w fun e w' => e = .returned (.bool false) ∧ w = w' := by
  go_enter Tryd.func70, Tryd.ntmps70
  go_wp2
  go_ret
  exact ⟨by simp, rfl⟩
theorem cmpInt_any (a b : Int) (w : World) : Calls Tryd.prog 53 #[.int .i64 a, .int .i64 b] w fun e w' => e = .returned (.int .i64 (cmpI a b)) ∧ w = w' := by
  rcases Int.lt_trichotomy a b with h | h | h
  · go_enter Tryd.func53, Tryd.ntmps53
    go_wp2_with (go_at_call 70; refine (isNaNInt_any _ _).mono ?_; rintro e w1 ⟨rfl, rfl⟩)
    go_ret
    exact ⟨ret_int (cmpI_lt h).symm, rfl⟩
  · subst h
    go_enter Tryd.func53, Tryd.ntmps53
    go_wp2_with (go_at_call 70; refine (isNaNInt_any _ _).mono ?_; rintro e w1 ⟨rfl, rfl⟩)
    go_ret
    exact ⟨ret_int (cmpI_eq a).symm, rfl⟩
  · have h' : ¬ a < b := by omega
    go_enter Tryd.func53, Tryd.ntmps53
    go_wp2_with (go_at_call 70; refine (isNaNInt_any _ _).mono ?_; rintro e w1 ⟨rfl, rfl⟩)
    go_ret
    exact ⟨ret_int (cmpI_gt h).symm, rfl⟩
theorem isNaNU32_any (a : Int) (w : World) : Calls Tryd.prog 84 #[.int .u32 a] w fun e w' => e = .returned (.bool false) ∧ w = w' := by
  go_enter Tryd.func84, Tryd.ntmps84
  go_wp2
  go_ret
  exact ⟨by simp, rfl⟩
theorem cmpU32_any (a b : Int) (w : World) : Calls Tryd.prog 71 #[.int .u32 a, .int .u32 b] w fun e w' => e = .returned (.int .i64 (cmpI a b)) ∧ w = w' := by
  rcases Int.lt_trichotomy a b with h | h | h
  · go_enter Tryd.func71, Tryd.ntmps71
    go_wp2_with (go_at_call 84; refine (isNaNU32_any _ _).mono ?_; rintro e w1 ⟨rfl, rfl⟩)
    go_ret
    exact ⟨ret_int (cmpI_lt h).symm, rfl⟩
  · subst h
    go_enter Tryd.func71, Tryd.ntmps71
    go_wp2_with (go_at_call 84; refine (isNaNU32_any _ _).mono ?_; rintro e w1 ⟨rfl, rfl⟩)
    go_ret
    exact ⟨ret_int (cmpI_eq a).symm, rfl⟩
  · have h' : ¬ a < b := by omega
    go_enter Tryd.func71, Tryd.ntmps71
    go_wp2_with (go_at_call 84; refine (isNaNU32_any _ _).mono ?_; rintro e w1 ⟨rfl, rfl⟩)
    go_ret
    exact ⟨ret_int (cmpI_gt h).symm, rfl⟩

/-- What Add32 and Sub32 hand back, under names. -/
def car32 (s : Int) : Int := s / 4294967296
def low32 (s : Int) : Int := s % 4294967296
def bor32 (x y : Int) : Int := if x < y then 1 else 0
theorem w32_low (s : Int) : W32 (low32 s) := ⟨by unfold low32; omega, by unfold low32; omega⟩
theorem car_low (s : Int) : car32 s * 4294967296 + low32 s = s := by unfold car32 low32; omega
theorem car_le {x y c : Int} (hx : W32 x) (hy : W32 y) (hc : c ≤ 1) : car32 (x + y + c) ≤ 1 := by
  have := hx.2; have := hy.2; unfold car32; omega
theorem car_ge {x y c : Int} (hx : W32 x) (hy : W32 y) (hc0 : 0 ≤ c) : 0 ≤ car32 (x + y + c) := by
  have := hx.1; have := hy.1; unfold car32; omega
theorem bor32_ge (x y : Int) : 0 ≤ bor32 x y := by unfold bor32; split <;> decide
theorem bor32_le (x y : Int) : bor32 x y ≤ 1 := by unfold bor32; split <;> decide
theorem bor32_low {x y : Int} (hx : W32 x) (hy0 : 0 ≤ y) (hy1 : y ≤ 4294967296) : low32 (x - y) = x - y + bor32 x y * 4294967296 := by
  obtain ⟨_, _⟩ := hx
  unfold bor32 low32
  split <;> omega

theorem add32 (x y c : Int) (hx : W32 x) (hy : W32 y) (hc0 : 0 ≤ c) (hc : c ≤ 1) (w : World) :
    Calls Tryd.prog 77 #[.int .u32 x, .int .u32 y, .int .u32 c] w fun e w' => e = .returned (.tuple #[.int .u32 (low32 (x + y + c)), .int .u32 (car32 (x + y + c))]) ∧ w = w' := by
  obtain ⟨x0, x1⟩ := hx
  obtain ⟨y0, y1⟩ := hy
  go_enter Tryd.func77, Tryd.ntmps77
  go_wp2
  go_ret2
  exact ⟨rfl, rfl⟩

theorem top_bit (n : Nat) (h : n < 4294967296) : n.testBit 31 = decide (2147483648 ≤ n) := by
  rw [Nat.testBit_eq_decide_div_mod_eq, Bool.eq_iff_iff]
  simp only [decide_eq_true_eq]
  have e : (2 : Nat) ^ 31 = 2147483648 := by decide
  rw [e]
  omega
theorem top_div (n : Nat) (h : n < 4294967296) : n / 2147483648 = if n.testBit 31 then 1 else 0 := by
  rw [top_bit n h]
  by_cases hn : 2147483648 ≤ n
  · simp [hn]; omega
  · simp [hn]; omega
theorem sub_top (x y b : Int) (hx : W32 x) (hy : W32 y) (hb0 : 0 ≤ b) (hb : b ≤ 1) :
    bits BinOp.or IntKind.u32 (bits BinOp.and IntKind.u32 (bits BinOp.xor IntKind.u32 IntKind.u32.max x) y) (bits BinOp.and IntKind.u32 (bits BinOp.xor IntKind.u32 IntKind.u32.max (bits BinOp.xor IntKind.u32 x y)) ((x - y - b) % 4294967296)) / 2147483648 = bor32 x (y + b) := by
  obtain ⟨x0, x1⟩ := hx
  obtain ⟨y0, y1⟩ := hy
  obtain ⟨x, rfl⟩ := Int.eq_ofNat_of_zero_le x0
  obtain ⟨y, rfl⟩ := Int.eq_ofNat_of_zero_le y0
  obtain ⟨D, hD⟩ := Int.eq_ofNat_of_zero_le (show 0 ≤ ((x : Int) - y - b) % 4294967296 by omega)
  have em : IntKind.u32.max = ((4294967295 : Nat) : Int) := by decide
  have lx : x < 2 ^ 32 := by omega
  have ly : y < 2 ^ 32 := by omega
  have lD : D < 2 ^ 32 := by omega
  have lm : 4294967295 < 2 ^ 32 := by decide
  have l1 := Nat.xor_lt_two_pow lm lx
  have l2 := Nat.and_lt_two_pow (4294967295 ^^^ x) ly
  have l3 := Nat.xor_lt_two_pow lx ly
  have l4 := Nat.xor_lt_two_pow lm l3
  have l5 := Nat.and_lt_two_pow (4294967295 ^^^ (x ^^^ y)) lD
  have l6 := Nat.or_lt_two_pow l2 l5
  rw [hD, em, u32_xor_nat _ _ lm lx, u32_and_nat _ _ l1 ly, u32_xor_nat _ _ lx ly, u32_xor_nat _ _ lm l3, u32_and_nat _ _ l4 lD, u32_or_nat _ _ l2 l5]
  have e := top_div _ l6
  have ee : ((((4294967295 ^^^ x) &&& y ||| (4294967295 ^^^ (x ^^^ y)) &&& D) : Nat) : Int) / 2147483648 = ((((4294967295 ^^^ x) &&& y ||| (4294967295 ^^^ (x ^^^ y)) &&& D) / 2147483648 : Nat) : Int) := by omega
  rw [ee, e, Nat.testBit_or, Nat.testBit_and, Nat.testBit_and, Nat.testBit_xor, Nat.testBit_xor, Nat.testBit_xor, top_bit x lx, top_bit y ly, top_bit D lD, show Nat.testBit 4294967295 31 = true by decide]
  unfold bor32
  by_cases h1 : 2147483648 ≤ x <;> by_cases h2 : 2147483648 ≤ y <;> by_cases h3 : 2147483648 ≤ D <;> simp [h1, h2, h3] <;> omega

theorem sub32 (x y b : Int) (hx : W32 x) (hy : W32 y) (hb0 : 0 ≤ b) (hb : b ≤ 1) (w : World) :
    Calls Tryd.prog 79 #[.int .u32 x, .int .u32 y, .int .u32 b] w fun e w' => e = .returned (.tuple #[.int .u32 (low32 (x - (y + b))), .int .u32 (bor32 x (y + b))]) ∧ w = w' := by
  have F := Lib.hid (sub_top x y b hx hy hb0 hb)
  obtain ⟨x0, x1⟩ := hx
  obtain ⟨y0, y1⟩ := hy
  go_enter Tryd.func79, Tryd.ntmps79
  go_wp2
  rw [F.out]
  go_ret2
  refine ⟨?_, rfl⟩
  have e : (x - y - b) % 4294967296 = low32 (x - (y + b)) := by unfold low32; omega
  rw [← e]
  rfl

theorem len32 (x : Int) (h : W32 x) (w : World) : Calls Tryd.prog 72 #[.int .u32 x] w fun e w' => e = .returned (.int .i64 (Lib.bitLen x.toNat)) ∧ w = w' :=
  len32b x w h.1 (by have := h.2; omega)
theorem or_hi (h l : Int) (hh : W32 h) (hl : W32 l) : bits BinOp.or IntKind.u64 (h * 4294967296) l = h * 4294967296 + l := by
  obtain ⟨x0, x1⟩ := hh
  obtain ⟨y0, y1⟩ := hl
  obtain ⟨x, rfl⟩ := Int.eq_ofNat_of_zero_le x0
  obtain ⟨y, rfl⟩ := Int.eq_ofNat_of_zero_le y0
  have e : (x : Int) * 4294967296 = ((2 ^ 32 * x : Nat) : Int) := by
    rw [show (2 : Nat) ^ 32 = 4294967296 by decide]
    omega
  have ly : y < 2 ^ 32 := by omega
  rw [e, bits_or_u64_nat _ _ (by omega) (by omega), ← Nat.two_pow_add_eq_or_of_lt ly, Int.natCast_add]

/-- What Div32 hands back. -/
def IsDiv32 (h l d : Int) (w : World) (e : Ending) (w' : World) : Prop :=
  ∃ q r : Int, W32 q ∧ W32 r ∧ r < d ∧ q * d + r = h * 4294967296 + l ∧ e = .returned (.tuple #[.int .u32 q, .int .u32 r]) ∧ Below w.heap.size w w'
theorem div32_eq {h l d : Int} (hh : W32 h) (hl : W32 l) (hd : W32 d) (hlt : h < d) : W32 ((h * 4294967296 + l) / d) ∧ W32 ((h * 4294967296 + l) % d) ∧ (h * 4294967296 + l) % d < d ∧ (h * 4294967296 + l) / d * d + (h * 4294967296 + l) % d = h * 4294967296 + l := by
  obtain ⟨x0, x1⟩ := hh
  obtain ⟨y0, y1⟩ := hl
  obtain ⟨z0, z1⟩ := hd
  have hp : 0 < d := by omega
  have r0 := Int.emod_nonneg (h * 4294967296 + l) (Int.ne_of_gt hp)
  have r1 := Int.emod_lt_of_pos (h * 4294967296 + l) hp
  have e := Int.ediv_mul_add_emod (h * 4294967296 + l) d
  refine ⟨⟨Int.ediv_nonneg (by omega) (by omega), ?_⟩, ⟨r0, by omega⟩, r1, e⟩
  rw [Int.ediv_lt_iff_lt_mul hp]
  have : (h + 1) * 4294967296 ≤ d * 4294967296 := by omega
  omega
theorem div32 (h l d : Int) (hh : W32 h) (hl : W32 l) (hd : W32 d) (hlt : h < d) (w : World) :
    Calls Tryd.prog 85 #[.int .u32 h, .int .u32 l, .int .u32 d] w (IsDiv32 h l d w) := by
  have hor := or_hi h l hh hl
  obtain ⟨F1, F2, F3, F4⟩ := div32_eq hh hl hd hlt
  have G1 := F1.1; have G2 := F1.2; have G3 := F2.1; have G4 := F2.2
  obtain ⟨x0, x1⟩ := hh
  obtain ⟨y0, y1⟩ := hl
  obtain ⟨z0, z1⟩ := hd
  have hN0 : 0 ≤ h * 4294967296 + l := by omega
  have hN1 : h * 4294967296 + l < 18446744073709551616 := by omega
  have hz : (d == 0) = false := by simp; omega
  have hz2 : (d != 0) = true := by simp; omega
  have hn : decide (d ≤ h) = false := by simp; omega
  have H4 := Lib.hid F4
  clear F4
  generalize hN : h * 4294967296 + l = N at *
  go_enter Tryd.func85, Tryd.ntmps85
  go_upto_region 4 with fail
  go_region
  go_wp2
  go_ret2
  exact ⟨N / d, N % d, F1, F2, F3, by rw [H4.out, hN], rfl, bel_drew (Below.refl _ _)⟩

theorem aux_bitLen : ∀ (f x : Nat), x < 2 ^ f → Lib.bitLenAux f x = Go.bitLen x
  | 0, x, h => by
    have : x = 0 := by simpa using h
    subst this
    rfl
  | f + 1, x, h => by
    simp only [Lib.bitLenAux]
    by_cases hx : x = 0
    · subst hx; rfl
    · rw [if_neg hx, aux_bitLen f (x / 2) (by rw [Nat.pow_succ] at h; omega)]
      by_cases h1 : x < 2
      · have : x = 1 := by omega
        subst this
        rfl
      · have := bitLen_shift x 1 (by omega)
        rw [this]
theorem lib_bitLen (x : Nat) (h : x < 18446744073709551616) : Lib.bitLen x = Go.bitLen x := aux_bitLen 64 x h

theorem blen_w32 {x : Int} (h : W32 x) : ((Lib.bitLen x.toNat : Nat) : Int) = blen x := by
  unfold blen
  rw [lib_bitLen x.toNat (by have := h.1; have := h.2; omega)]
theorem blen_word {x : Int} (h : Word x) : ((Lib.bitLen x.toNat : Nat) : Int) = blen x := by
  unfold blen
  rw [lib_bitLen x.toNat (by have := h.1; have := h.2; omega)]
theorem blen_bd {x : Int} {k : Nat} (h0 : 0 ≤ x) (h1 : x < 2 ^ k) : 0 ≤ blen x ∧ blen x ≤ k := by
  obtain ⟨n, e, lt, ge, z⟩ := blen_spec h0
  rw [e]
  refine ⟨by omega, ?_⟩
  rcases Int.lt_or_le 0 x with hp | hp
  · have g := ge hp
    rcases Nat.lt_or_ge k n with hk | hk
    · have := pow_mono k (n - 1) (by omega)
      omega
    · omega
  · rw [z (by omega)]
    omega
theorem len32w (x : Int) (h : W32 x) (w : World) : Calls Tryd.prog 72 #[.int .u32 x] w fun e w' => e = .returned (.int .i64 (blen x)) ∧ w = w' := by
  rw [← blen_w32 h]
  exact len32 x h w
theorem lz32 (x : Int) (h : W32 x) (w : World) : Calls Tryd.prog 87 #[.int .u32 x] w fun e w' => e = .returned (.int .i64 (32 - blen x)) ∧ w = w' := by
  obtain ⟨b0, b1⟩ := blen_bd (k := 32) h.1 h.2
  have L := len32w x h
  generalize blen x = b at *
  go_enter Tryd.func87, Tryd.ntmps87
  go_wp2_with fail
  refine (L _).mono ?_
  rintro e w1 ⟨rfl, rfl⟩
  clear L
  go_wp2
  go_ret
  exact ⟨rfl, rfl⟩
end Go.Proofs.YtaollppieonmbaaDoor
