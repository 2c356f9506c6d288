/-
  Contracts of layer wide for numbers of two and three words: Add, Sub, Mul, Cmp, Len, Shl, Shr, widen, low. Conditions: the fields are words of 64 bits, the shift is an int.
-/
import Derived.Test.YtgjgcehoakacoaaGreatDoorBase
import Derived.Test.YtgjgcehoakacoaaGreatDoorMNa
namespace Go.Proofs.YtgjgcehoakacoaaGreatDoor
open Go.RowKit

theorem Word.lo {x : Int} (h : Word x) : 0 ≤ x := h.1
theorem Word.hi {x : Int} (h : Word x) : x < 18446744073709551616 := h.2
theorem word_mod (x : Int) : Word (x % 18446744073709551616) := ⟨by omega, by omega⟩
theorem word_nat {x : Int} (h : Word x) : ∃ n : Nat, n < 18446744073709551616 ∧ x = (n : Int) :=
  ⟨x.toNat, by have := h.1; have := h.2; omega, by have := h.1; omega⟩

/-- The number of two words, and of three. -/
def V2 (h l : Int) : Int := h * 18446744073709551616 + l
def V3 (h m l : Int) : Int := h * 340282366920938463463374607431768211456 + m * 18446744073709551616 + l

/-- What the two hand back, under names: the low word and the carry. -/
def carry (s : Int) : Int := s / 18446744073709551616
def lowOf (s : Int) : Int := s % 18446744073709551616
def bor (x y : Int) : Int := if x < y then 1 else 0
theorem carry_le {x y c : Int} (hx : Word x) (hy : Word y) (_hc0 : 0 ≤ c) (hc : c ≤ 1) : carry (x + y + c) ≤ 1 := by
  have := hx.2; have := hy.2; unfold carry; omega
theorem carry_ge {x y c : Int} (hx : Word x) (hy : Word y) (hc0 : 0 ≤ c) : 0 ≤ carry (x + y + c) := by
  have := hx.1; have := hy.1; unfold carry; omega
theorem word_lowOf (s : Int) : Word (lowOf s) := word_mod s
theorem carry_low (s : Int) : carry s * 18446744073709551616 + lowOf s = s := by unfold carry lowOf; omega
theorem bor_ge (x y : Int) : 0 ≤ bor x y := by unfold bor; split <;> decide
theorem bor_le (x y : Int) : bor x y ≤ 1 := by unfold bor; split <;> decide
theorem bor_low {x y : Int} (hx : Word x) (hy0 : 0 ≤ y) (hy1 : y ≤ 18446744073709551616) : lowOf (x - y) = x - y + bor x y * 18446744073709551616 := by
  obtain ⟨_, _⟩ := hx
  unfold bor lowOf
  split <;> omega
set_option maxHeartbeats 1000000 in
theorem mul64n (x y : Nat) (hx : x < 18446744073709551616) (hy : y < 18446744073709551616) (w : World) :
    Calls Tryz.prog 109 #[.int .u64 x, .int .u64 y] w fun e w' => e = .returned (.tuple #[.int .u64 ((x * y / 18446744073709551616 : Nat) : Int), .int .u64 ((x * y % 18446744073709551616 : Nat) : Int)]) ∧ w = w' := by
  obtain ⟨bd, bt, bw, hhi⟩ := Lib.mul64_hi x y hx hy
  have ba := Lib.half_mul_le (a := x / 4294967296) (b := y / 4294967296) (by omega) (by omega)
  have bb := Lib.half_mul_le (a := x / 4294967296) (b := y % 4294967296) (by omega) (by omega)
  have bc := Lib.half_mul_le (a := x % 4294967296) (b := y / 4294967296) (by omega) (by omega)
  have ba' : x / 4294967296 * (y / 4294967296) < 18446744073709551616 := by omega
  have bb' : x / 4294967296 * (y % 4294967296) < 18446744073709551616 := by omega
  have bc' : x % 4294967296 * (y / 4294967296) < 18446744073709551616 := by omega
  have bh1 : x / 4294967296 * (y / 4294967296) + (x / 4294967296 * (y % 4294967296) + x % 4294967296 * (y % 4294967296) / 4294967296) / 4294967296 < 18446744073709551616 := by omega
  have bh : x / 4294967296 * (y / 4294967296) + (x / 4294967296 * (y % 4294967296) + x % 4294967296 * (y % 4294967296) / 4294967296) / 4294967296 + ((x / 4294967296 * (y % 4294967296) + x % 4294967296 * (y % 4294967296) / 4294967296) % 4294967296 + x % 4294967296 * (y / 4294967296)) / 4294967296 < 18446744073709551616 := by omega
  go_enter Tryz.func109, Tryz.ntmps109
  go_wp2
  simp only [Mul64.maskN x hx, Mul64.maskN y hy, Mul64.divN, Mul64.mulN, Mul64.addN, Mul64.wrapN _ bd, Mul64.wrapN _ bb', Mul64.wrapN _ bt, Mul64.maskN _ bt, Mul64.wrapN _ bc', Mul64.wrapN _ bw, Mul64.wrapN _ ba', Mul64.wrapN _ bh1, Mul64.wrapN _ bh, Mul64.wrapM (x * y)]
  rw [hhi]
  go_ret2
  exact ⟨rfl, rfl⟩

/-- What Mul64 hands back. -/
def IsMul64 (x y : Int) (w : World) (e : Ending) (w' : World) : Prop :=
  ∃ h l : Int, Word h ∧ Word l ∧ V2 h l = x * y ∧ e = .returned (.tuple #[.int .u64 h, .int .u64 l]) ∧ w = w'
theorem mul64 (x y : Int) (hx : Word x) (hy : Word y) (w : World) : Calls Tryz.prog 109 #[.int .u64 x, .int .u64 y] w (IsMul64 x y w) := by
  obtain ⟨x, hx', rfl⟩ := word_nat hx
  obtain ⟨y, hy', rfl⟩ := word_nat hy
  refine (mul64n x y hx' hy' w).mono fun e w' ⟨he, hw⟩ => ⟨_, _, ?_, ?_, ?_, he, hw⟩
  · have : x * y < 18446744073709551616 * 18446744073709551616 := Nat.mul_lt_mul'' hx' hy'
    exact ⟨by omega, by omega⟩
  · exact ⟨by omega, by omega⟩
  · unfold V2
    have := Nat.div_add_mod (x * y) 18446744073709551616
    rw [← Int.natCast_mul]
    omega

/-- A call came back with a value of which P holds; nothing that was there has changed. -/
def Ret (P : Value → Prop) (w : World) (e : Ending) (w' : World) : Prop := ∃ v, P v ∧ e = .returned v ∧ Below w.heap.size w w'

/-- A pair (number of two words, word). -/
def IsAdd2 (a b : Int) (v : Value) : Prop := ∃ h l c : Int, Word h ∧ Word l ∧ 0 ≤ c ∧ c ≤ 1 ∧ V2 h l + c * 340282366920938463463374607431768211456 = a + b ∧ v = .tuple #[.agg #[.int .u64 h, .int .u64 l], .int .u64 c]
def IsSub2 (a b : Int) (v : Value) : Prop := ∃ h l c : Int, Word h ∧ Word l ∧ 0 ≤ c ∧ c ≤ 1 ∧ V2 h l - c * 340282366920938463463374607431768211456 = a - b ∧ v = .tuple #[.agg #[.int .u64 h, .int .u64 l], .int .u64 c]

theorem add2_eq {ah al bh bl : Int} (h1 : Word ah) (h2 : Word al) (h3 : Word bh) (h4 : Word bl) :
    IsAdd2 (V2 ah al) (V2 bh bl) (.tuple #[.agg #[.int .u64 (lowOf (ah + bh + carry (al + bl))), .int .u64 (lowOf (al + bl))], .int .u64 (carry (ah + bh + carry (al + bl)))]) := by
  have k0 : 0 ≤ carry (al + bl) := by have := carry_ge h2 h4 (Int.le_refl 0); rwa [Int.add_zero] at this
  have k1 : carry (al + bl) ≤ 1 := by have := carry_le h2 h4 (Int.le_refl 0) (by decide); rwa [Int.add_zero] at this
  refine ⟨_, _, _, word_lowOf _, word_lowOf _, carry_ge h1 h3 k0, carry_le h1 h3 k0 k1, ?_, rfl⟩
  have e1 := carry_low (al + bl)
  have e2 := carry_low (ah + bh + carry (al + bl))
  generalize carry (ah + bh + carry (al + bl)) = c2 at *
  generalize lowOf (ah + bh + carry (al + bl)) = l2 at *
  unfold V2
  omega

theorem sub2_eq {ah al bh bl : Int} (h1 : Word ah) (h2 : Word al) (h3 : Word bh) (h4 : Word bl) :
    IsSub2 (V2 ah al) (V2 bh bl) (.tuple #[.agg #[.int .u64 (lowOf (ah - (bh + bor al bl))), .int .u64 (lowOf (al - bl))], .int .u64 (bor ah (bh + bor al bl))]) := by
  have k0 := bor_ge al bl
  have k1 := bor_le al bl
  refine ⟨_, _, _, word_lowOf _, word_lowOf _, bor_ge _ _, bor_le _ _, ?_, rfl⟩
  have e1 := bor_low h2 h4.1 (by have := h4.2; omega)
  have e2 := bor_low h1 (y := bh + bor al bl) (by have := h3.1; omega) (by have := h3.2; omega)
  rw [e1, e2]
  generalize bor ah (bh + bor al bl) = c2 at *
  generalize bor al bl = c1 at *
  unfold V2
  omega

/-- The number n, in two words. -/
def Is2 (n : Int) (v : Value) : Prop := ∃ h l : Int, Word h ∧ Word l ∧ V2 h l = n ∧ v = .agg #[.int .u64 h, .int .u64 l]
/-- The number n, in three words. -/
def Is3 (n : Int) (v : Value) : Prop := ∃ h m l : Int, Word h ∧ Word m ∧ Word l ∧ V3 h m l = n ∧ v = .agg #[.int .u64 h, .int .u64 m, .int .u64 l]

/-- Mul makes one block and no more. -/
def IsMul1 (n : Int) (w : World) (e : Ending) (w' : World) : Prop := ∃ h l : Int, Word h ∧ Word l ∧ V2 h l = n ∧ e = .returned (.agg #[.int .u64 h, .int .u64 l]) ∧ ∃ c : Array Value, w' = w.alloc (.cells c 163)
/-- Pairs of words, the weightiest first: the first pair that differs decides. -/
def cmpL : List (Int × Int) → Int
  | [] => 0
  | (a, b) :: r => if cmpI a b = 0 then cmpL r else cmpI a b

theorem cmpL2 {ah al bh bl : Int} (h1 : Word ah) (h2 : Word al) (h3 : Word bh) (h4 : Word bl) : cmpL [(ah, bh), (al, bl)] = cmpI (V2 ah al) (V2 bh bl) := by
  obtain ⟨_, _⟩ := h1; obtain ⟨_, _⟩ := h2; obtain ⟨_, _⟩ := h3; obtain ⟨_, _⟩ := h4
  unfold cmpL cmpL cmpL cmpI V2
  repeat' split
  all_goals omega
theorem cmpL3 {ah am al bh bm bl : Int} (h1 : Word ah) (h5 : Word am) (h2 : Word al) (h3 : Word bh) (h6 : Word bm) (h4 : Word bl) : cmpL [(ah, bh), (am, bm), (al, bl)] = cmpI (V3 ah am al) (V3 bh bm bl) := by
  obtain ⟨_, _⟩ := h1; obtain ⟨_, _⟩ := h2; obtain ⟨_, _⟩ := h3; obtain ⟨_, _⟩ := h4; obtain ⟨_, _⟩ := h5; obtain ⟨_, _⟩ := h6
  unfold cmpL cmpL cmpL cmpL cmpI V3
  repeat' split
  all_goals omega

theorem widen_any (h l : Int) (w : World) : Calls Tryz.prog 161 #[.agg #[.int .u64 h, .int .u64 l]] w fun e w' => e = .returned (.agg #[.int .u64 0, .int .u64 h, .int .u64 l]) ∧ Below w.heap.size w w' := by
  go_enter Tryz.func161, Tryz.ntmps161
  go_wp2
  refine bodyPost_ret (by simp [results, Tryz.results161, go_sem]) rfl ⟨rfl, ?_⟩
  exact bel_alloc (bel_alloc (Below.refl _ _) _) _
theorem wlow_any (h m l : Int) (w : World) : Calls Tryz.prog 163 #[.agg #[.int .u64 h, .int .u64 m, .int .u64 l]] w fun e w' => e = .returned (.agg #[.int .u64 m, .int .u64 l]) ∧ Below w.heap.size w w' := by
  go_enter Tryz.func163, Tryz.ntmps163
  go_wp2
  refine bodyPost_ret (by simp [results, Tryz.results163, go_sem]) rfl ⟨rfl, ?_⟩
  exact bel_alloc (bel_alloc (Below.refl _ _) _) _

theorem blen_hi {h l b : Int} {k : Nat} (hh : 0 < h) (hb : (2 : Int) ^ k = b) (h0 : 0 ≤ l) (h1 : l < b) : blen (h * b + l) = k + blen h := by
  obtain ⟨H, rfl⟩ := Int.eq_ofNat_of_zero_le (Int.le_of_lt hh)
  obtain ⟨L, rfl⟩ := Int.eq_ofNat_of_zero_le h0
  have hb' : b = ((2 ^ k : Nat) : Int) := by rw [← hb]; simp
  subst hb'
  have e : ((H : Int) * ((2 ^ k : Nat) : Int) + (L : Int)).toNat = H * 2 ^ k + L := by
    rw [← Int.natCast_mul, ← Int.natCast_add]
    exact Int.toNat_natCast _
  have hp : 0 < 2 ^ k := Nat.two_pow_pos k
  have q : (H * 2 ^ k + L) / 2 ^ k = H := by
    rw [Nat.add_comm, Nat.add_mul_div_right _ _ hp, Nat.div_eq_of_lt (by omega)]
    omega
  unfold blen
  rw [e, bitLen_shift (H * 2 ^ k + L) k (by rw [q]; omega), q]
  simp
theorem blen_word_le {x : Int} (h : Word x) : 0 ≤ blen x ∧ blen x ≤ 64 := by
  refine ⟨by unfold blen; omega, ?_⟩
  obtain ⟨h0, h1⟩ := h
  unfold blen Go.bitLen
  split
  · omega
  · rename_i hx
    have := (Nat.log2_lt hx).2 (show x.toNat < 2 ^ 64 by omega)
    omega

theorem len2 (h l : Int) (h1 : Word h) (h2 : Word l) (w : World) :
    Calls Tryz.prog 129 #[.agg #[.int .u64 h, .int .u64 l]] w fun e w' => e = .returned (.int .i64 (blen (V2 h l))) ∧ Below w.heap.size w w' := by
  by_cases h0 : h = 0
  · subst h0
    have F : Hid (((Lib.bitLen l.toNat : Nat) : Int) = blen (V2 0 l)) := by
      show _ = _
      rw [blen_word h2]
      simp [V2]
    go_enter Tryz.func129, Tryz.ntmps129
    go_wp2_with (go_at_call 70; refine (len64 l h2 _).mono ?_; rintro e w1 ⟨rfl, rfl⟩)
    go_ret
    exact ⟨ret_int F.out, bel_alloc (Below.refl _ _) _⟩
  · have t0 : (h != 0) = true := by simp [h0]
    have F : Hid (64 + ((Lib.bitLen h.toNat : Nat) : Int) = blen (V2 h l)) := by
      show _ = _
      rw [blen_word h1]
      unfold V2
      rw [blen_hi (k := 64) (by have := h1.1; omega) (by decide) h2.1 h2.2]
      rfl
    have b1 := blen_word_le h1
    have b2 : ((Lib.bitLen h.toNat : Nat) : Int) ≤ 64 := by rw [blen_word h1]; exact b1.2
    clear h0 b1
    go_enter Tryz.func129, Tryz.ntmps129
    go_wp2_with (go_at_call 70; refine (len64 h h1 _).mono ?_; rintro e w1 ⟨rfl, rfl⟩)
    go_ret
    exact ⟨ret_int F.out, bel_alloc (Below.refl _ _) _⟩

def IsAdd3 (a b : Int) (v : Value) : Prop := ∃ h m l c : Int, Word h ∧ Word m ∧ Word l ∧ 0 ≤ c ∧ c ≤ 1 ∧ V3 h m l + c * 6277101735386680763835789423207666416102355444464034512896 = a + b ∧ v = .tuple #[.agg #[.int .u64 h, .int .u64 m, .int .u64 l], .int .u64 c]
def IsSub3 (a b : Int) (v : Value) : Prop := ∃ h m l c : Int, Word h ∧ Word m ∧ Word l ∧ 0 ≤ c ∧ c ≤ 1 ∧ V3 h m l - c * 6277101735386680763835789423207666416102355444464034512896 = a - b ∧ v = .tuple #[.agg #[.int .u64 h, .int .u64 m, .int .u64 l], .int .u64 c]

theorem add3_eq {ah am al bh bm bl : Int} (h1 : Word ah) (h5 : Word am) (h2 : Word al) (h3 : Word bh) (h6 : Word bm) (h4 : Word bl) :
    IsAdd3 (V3 ah am al) (V3 bh bm bl) (.tuple #[.agg #[.int .u64 (lowOf (ah + bh + carry (am + bm + carry (al + bl)))), .int .u64 (lowOf (am + bm + carry (al + bl))), .int .u64 (lowOf (al + bl))], .int .u64 (carry (ah + bh + carry (am + bm + carry (al + bl))))]) := by
  have k0 : 0 ≤ carry (al + bl) := by have := carry_ge h2 h4 (Int.le_refl 0); rwa [Int.add_zero] at this
  have k1 : carry (al + bl) ≤ 1 := by have := carry_le h2 h4 (Int.le_refl 0) (by decide); rwa [Int.add_zero] at this
  have k2 := carry_ge h5 h6 k0
  have k3 := carry_le h5 h6 k0 k1
  refine ⟨_, _, _, _, word_lowOf _, word_lowOf _, word_lowOf _, carry_ge h1 h3 k2, carry_le h1 h3 k2 k3, ?_, rfl⟩
  have e1 := carry_low (al + bl)
  have e2 := carry_low (am + bm + carry (al + bl))
  have e3 := carry_low (ah + bh + carry (am + bm + carry (al + bl)))
  generalize carry (ah + bh + carry (am + bm + carry (al + bl))) = c3 at *
  generalize lowOf (ah + bh + carry (am + bm + carry (al + bl))) = l3 at *
  generalize carry (am + bm + carry (al + bl)) = c2 at *
  generalize lowOf (am + bm + carry (al + bl)) = l2 at *
  unfold V3
  omega
theorem sub3_eq {ah am al bh bm bl : Int} (h1 : Word ah) (h5 : Word am) (h2 : Word al) (h3 : Word bh) (h6 : Word bm) (h4 : Word bl) :
    IsSub3 (V3 ah am al) (V3 bh bm bl) (.tuple #[.agg #[.int .u64 (lowOf (ah - (bh + bor am (bm + bor al bl)))), .int .u64 (lowOf (am - (bm + bor al bl))), .int .u64 (lowOf (al - bl))], .int .u64 (bor ah (bh + bor am (bm + bor al bl)))]) := by
  have k0 := bor_ge al bl
  have k1 := bor_le al bl
  have k2 := bor_ge am (bm + bor al bl)
  have k3 := bor_le am (bm + bor al bl)
  refine ⟨_, _, _, _, word_lowOf _, word_lowOf _, word_lowOf _, bor_ge _ _, bor_le _ _, ?_, rfl⟩
  have e1 := bor_low h2 h4.1 (by have := h4.2; omega)
  have e2 := bor_low h5 (y := bm + bor al bl) (by have := h6.1; omega) (by have := h6.2; omega)
  have e3 := bor_low h1 (y := bh + bor am (bm + bor al bl)) (by have := h3.1; omega) (by have := h3.2; omega)
  rw [e1, e2, e3]
  generalize bor ah (bh + bor am (bm + bor al bl)) = c3 at *
  generalize bor am (bm + bor al bl) = c2 at *
  generalize bor al bl = c1 at *
  unfold V3
  omega

theorem mul2_eq {ah al b h5 l5 h6 l6 : Int} (w5 : Word h5) (w5' : Word l5) (w6 : Word h6) (w6' : Word l6) (h1 : Word ah) (h2 : Word al) (h3 : Word b) (hv5 : V2 h5 l5 = al * b) (hv6 : V2 h6 l6 = ah * b) :
    Is3 (V2 ah al * b) (.agg #[.int .u64 (IntKind.u64.wrap (h6 + carry (h5 + l6))), .int .u64 (lowOf (h5 + l6)), .int .u64 l5]) := by
  have k0 : 0 ≤ carry (h5 + l6) := by have := carry_ge w5 w6' (Int.le_refl 0); rwa [Int.add_zero] at this
  have k1 : carry (h5 + l6) ≤ 1 := by have := carry_le w5 w6' (Int.le_refl 0) (by decide); rwa [Int.add_zero] at this
  have e1 := carry_low (h5 + l6)
  have w7 := word_lowOf (h5 + l6)
  have hp : ah * b ≤ 18446744073709551615 * 18446744073709551615 := Int.mul_le_mul (by have := h1.2; omega) (by have := h3.2; omega) h3.1 (by decide)
  have hq : al * b ≤ 18446744073709551615 * 18446744073709551615 := Int.mul_le_mul (by have := h2.2; omega) (by have := h3.2; omega) h3.1 (by decide)
  have e2 : V2 ah al * b = (ah * b) * 18446744073709551616 + al * b := by unfold V2; rw [Int.add_mul, Int.mul_right_comm]
  obtain ⟨_, _⟩ := w5; obtain ⟨_, _⟩ := w5'; obtain ⟨_, _⟩ := w6; obtain ⟨_, _⟩ := w6'
  unfold V2 at hv5 hv6
  have e3 : h6 + carry (h5 + l6) < 18446744073709551616 := by
    generalize ah * b = p at *
    generalize al * b = q at *
    obtain ⟨_, _⟩ := w7
    omega
  rw [show IntKind.u64.wrap (h6 + carry (h5 + l6)) = h6 + carry (h5 + l6) by rw [IntKind.wrap_u64]; omega]
  refine ⟨_, _, _, ⟨by omega, e3⟩, w7, ⟨by omega, by omega⟩, ?_, rfl⟩
  rw [e2, ← hv5, ← hv6]
  unfold V3
  omega

theorem wpow_split (j : Nat) (hj : j ≤ 64) : (2 : Int) ^ (64 - j) * 2 ^ j = 18446744073709551616 := by
  rw [← Int.pow_add, show 64 - j + j = 64 by omega]
  decide
/-- The word x shifted up by j: what leaves it above, and what stays. -/
theorem wshl_split (x : Int) (j : Nat) (hj : j ≤ 64) : x * 2 ^ j = x / 2 ^ (64 - j) * 18446744073709551616 + IntKind.u64.wrap (x * 2 ^ j) := by
  have e : x * 2 ^ j / 18446744073709551616 = x / 2 ^ (64 - j) := by
    rw [← wpow_split j hj]
    exact Int.mul_ediv_mul_of_pos_left _ _ (pow_pos' j)
  rw [IntKind.wrap_u64, ← e]
  omega
theorem wshr_lt (y : Int) (hy : Word y) (j : Nat) (hj : j ≤ 64) : 0 ≤ y / 2 ^ (64 - j) ∧ y / 2 ^ (64 - j) < 2 ^ j := by
  refine ⟨Int.ediv_nonneg hy.1 (Int.le_of_lt (pow_pos' _)), ?_⟩
  have := wpow_split j hj
  rw [Int.ediv_lt_iff_lt_mul (pow_pos' _), Int.mul_comm, this]
  exact hy.2
theorem pow_le64 (j : Nat) (hj : j ≤ 64) : (2 : Int) ^ j ≤ 18446744073709551616 := by
  have h1 := wpow_split j hj
  have h2 := pow_pos' (64 - j)
  have h3 := pow_pos' j
  have : 1 * (2 : Int) ^ j ≤ 2 ^ (64 - j) * 2 ^ j := Int.mul_le_mul_of_nonneg_right (by omega) (Int.le_of_lt h3)
  omega
/-- What is shifted up and what comes in below have no bit in common. -/
theorem wor_shl (x y : Int) (hx : Word x) (hy : 0 ≤ y) (j : Nat) (hj : j ≤ 64) (hy' : y < 2 ^ j) :
    bits .or .u64 (IntKind.u64.wrap (x * 2 ^ j)) y = IntKind.u64.wrap (x * 2 ^ j) + y := by
  obtain ⟨x, hx', rfl⟩ := word_nat hx
  obtain ⟨y, rfl⟩ := Int.eq_ofNat_of_zero_le hy
  have hp := pow_le64 j hj
  have e : IntKind.u64.wrap ((x : Int) * 2 ^ j) = ((2 ^ j * (x % 2 ^ (64 - j)) : Nat) : Int) := by
    rw [IntKind.wrap_u64, show (18446744073709551616 : Int) = ((2 ^ (64 - j) * 2 ^ j : Nat) : Int) by simp [wpow_split j hj], show ((x : Int) * 2 ^ j) = ((x * 2 ^ j : Nat) : Int) by simp, ← Int.natCast_emod, Nat.mul_mod_mul_right, Nat.mul_comm]
  have hyn : y < 2 ^ j := by
    have : (y : Int) < ((2 ^ j : Nat) : Int) := by simpa using hy'
    omega
  have hlt : 2 ^ j * (x % 2 ^ (64 - j)) + y < 18446744073709551616 := by
    have h1 : x % 2 ^ (64 - j) + 1 ≤ 2 ^ (64 - j) := Nat.mod_lt _ (Nat.two_pow_pos _)
    have h2 : 2 ^ j * (x % 2 ^ (64 - j) + 1) ≤ 2 ^ j * 2 ^ (64 - j) := Nat.mul_le_mul_left _ h1
    rw [← Nat.pow_add, show j + (64 - j) = 64 by omega, Nat.mul_add] at h2
    omega
  rw [e, bits_or_u64_nat _ _ (by omega) (by omega), ← Nat.two_pow_add_eq_or_of_lt hyn, Int.natCast_add]
/-- What stays of a word that is shifted up has j noughts below. -/
theorem or_lt (x : Int) (j : Nat) (hj : j ≤ 64) : 0 ≤ IntKind.u64.wrap (x * 2 ^ j) ∧ IntKind.u64.wrap (x * 2 ^ j) + 2 ^ j ≤ 18446744073709551616 := by
  refine ⟨by rw [IntKind.wrap_u64]; omega, ?_⟩
  have e : IntKind.u64.wrap (x * 2 ^ j) = x % 2 ^ (64 - j) * 2 ^ j := by
    rw [IntKind.wrap_u64, ← wpow_split j hj, Int.mul_comm x, Int.mul_comm (2 ^ (64 - j)), Int.mul_emod_mul_of_pos _ _ (pow_pos' j), Int.mul_comm]
  have h1 := Int.emod_lt_of_pos x (pow_pos' (64 - j))
  have h2 : (x % 2 ^ (64 - j) + 1) * 2 ^ j ≤ 2 ^ (64 - j) * 2 ^ j := Int.mul_le_mul_of_nonneg_right (by omega) (Int.le_of_lt (pow_pos' j))
  rw [wpow_split j hj, Int.add_mul] at h2
  rw [e]
  omega

/-- The number of three words, shifted, modulo 2^192. -/
def wshlV (v : Int) (k : Nat) : Int := v * 2 ^ k % 6277101735386680763835789423207666416102355444464034512896

theorem shlV_word (h m l j : Int) (hj : 64 ≤ j) : wshlV (V3 m l 0) (j - 64).toNat = wshlV (V3 h m l) j.toNat := by
  unfold wshlV
  have e : (2 : Int) ^ j.toNat = 18446744073709551616 * 2 ^ (j - 64).toNat := by
    rw [show j.toNat = 64 + (j - 64).toNat by omega, Int.pow_add]
    rfl
  have e2 : V3 h m l * 2 ^ j.toNat = V3 m l 0 * 2 ^ (j - 64).toNat + h * 2 ^ (j - 64).toNat * 6277101735386680763835789423207666416102355444464034512896 := by
    rw [e, ← Int.mul_assoc, show V3 h m l * 18446744073709551616 = V3 m l 0 + h * 6277101735386680763835789423207666416102355444464034512896 by unfold V3; omega, Int.add_mul, Int.mul_right_comm]
  rw [e2, Int.add_mul_emod_self_right]
theorem shlV_big (v : Int) (k : Nat) (hk : 192 ≤ k) : wshlV v k = 0 := by
  unfold wshlV
  rw [show k = 192 + (k - 192) by omega, Int.pow_add, show (2 : Int) ^ 192 = 6277101735386680763835789423207666416102355444464034512896 by decide, ← Int.mul_assoc, Int.mul_right_comm]
  exact Int.mul_emod_left _ _
theorem toNat_sub64 {j : Int} (h0 : 0 ≤ j) (hj : j < 64) : (64 - j).toNat = 64 - j.toNat := by omega
theorem shl3_eq {h m l j : Int} (w1 : Word h) (w2 : Word m) (w3 : Word l) (hj0 : 0 ≤ j) (hj : j < 64) :
    Is3 (wshlV (V3 h m l) j.toNat) (.agg #[.int .u64 (bits BinOp.or IntKind.u64 (IntKind.u64.wrap (h * 2 ^ j.toNat)) (m / 2 ^ (64 - j).toNat)), .int .u64 (bits BinOp.or IntKind.u64 (IntKind.u64.wrap (m * 2 ^ j.toNat)) (l / 2 ^ (64 - j).toNat)), .int .u64 (IntKind.u64.wrap (l * 2 ^ j.toNat))]) := by
  rw [toNat_sub64 hj0 hj]
  have hk : j.toNat ≤ 64 := by omega
  generalize j.toNat = k at *
  have s1 := wshr_lt m w2 k hk
  have s2 := wshr_lt l w3 k hk
  have e1 := wshl_split h k hk
  have e2 := wshl_split m k hk
  have e3 := wshl_split l k hk
  rw [wor_shl h _ w1 s1.1 k hk s1.2, wor_shl m _ w2 s2.1 k hk s2.2]
  have b1 := or_lt h k hk
  have b2 := or_lt m k hk
  have b3 := or_lt l k hk
  have hp := pow_pos' k
  have eV : V3 h m l * 2 ^ k = h * 2 ^ k * 340282366920938463463374607431768211456 + m * 2 ^ k * 18446744073709551616 + l * 2 ^ k := by
    unfold V3
    rw [Int.add_mul, Int.add_mul, Int.mul_right_comm, Int.mul_right_comm m]
  generalize IntKind.u64.wrap (h * 2 ^ k) = H at *
  generalize IntKind.u64.wrap (m * 2 ^ k) = M at *
  generalize IntKind.u64.wrap (l * 2 ^ k) = L at *
  generalize m / 2 ^ (64 - k) = mq at *
  generalize l / 2 ^ (64 - k) = lq at *
  generalize h / 2 ^ (64 - k) = hq at *
  generalize h * 2 ^ k = hp' at *
  generalize m * 2 ^ k = mp at *
  generalize l * 2 ^ k = lp at *
  refine ⟨_, _, _, ⟨by omega, by omega⟩, ⟨by omega, by omega⟩, ⟨by omega, by omega⟩, ?_, rfl⟩
  unfold wshlV
  rw [eV]
  unfold V3
  omega

set_option maxHeartbeats 3200000 in
theorem shl3_small (ah am al n : Int) (h1 : Word ah) (h2 : Word am) (h3 : Word al) (hn : n < 192) (hn' : -9223372036854775808 ≤ n) (w : World) :
    Calls Tryz.prog 162 #[.agg #[.int .u64 ah, .int .u64 am, .int .u64 al], .int .i64 n] w (Ret (Is3 (wshlV (V3 ah am al) n.toNat)) w) := by
  go_enter Tryz.func162, Tryz.ntmps162
  go_wp2
  go_loopw [1] (fun s1 wr => ∃ (j h m l : Int), 0 ≤ j ∧ j < 192 ∧ s1 = .int .i64 j ∧ Word h ∧ Word m ∧ Word l ∧ wshlV (V3 h m l) j.toNat = wshlV (V3 ah am al) n.toNat ∧ wr = (w.alloc (.cells #[.int .u64 h, .int .u64 m, .int .u64 l] 218)).alloc (.cells #[.int .u64 0, .int .u64 0, .int .u64 0] 218)) (fun s1 _ => (intOf s1).toNat)
  case atStart => exact ⟨max n 0, ah, am, al, by omega, by omega, rfl, h1, h2, h3, by rw [show (max n 0).toNat = n.toNat by omega], rfl⟩
  case round =>
    obtain ⟨j, h, m, l, hj0, hj, rfl, wh, wm, wl, hv, rfl⟩ := hrel
    have HV := Lib.hid hv
    clear hv
    by_cases hc : 64 ≤ j
    · go_wp2
      go_roundw
      case rel => exact ⟨j - 64, m, l, 0, by omega, by omega, rfl, wm, wl, ⟨by decide, by decide⟩, (by rw [← HV.out]; exact shlV_word h m l j hc), rfl⟩
      case measure => simp [intOf]; omega
    · have fin := shl3_eq wh wm wl hj0 (by omega)
      rw [HV.out] at fin
      go_wp2
      go_region
      go_wp2
      refine bodyPost_ret (by simp [results, Tryz.results162, go_sem]) rfl ⟨_, fin, rfl, ?_⟩
      exact bel_drew (bel_alloc (bel_alloc (Below.refl _ _) _) _)

theorem shl3 (ah am al n : Int) (h1 : Word ah) (h2 : Word am) (h3 : Word al) (hn' : -9223372036854775808 ≤ n) (w : World) :
    Calls Tryz.prog 162 #[.agg #[.int .u64 ah, .int .u64 am, .int .u64 al], .int .i64 n] w (Ret (Is3 (wshlV (V3 ah am al) n.toNat)) w) := by
  by_cases hn : n < 192
  · exact shl3_small ah am al n h1 h2 h3 hn hn' w
  · have fin : Is3 (wshlV (V3 ah am al) n.toNat) (.agg #[.int .u64 0, .int .u64 0, .int .u64 0]) := by
      rw [shlV_big _ _ (by omega)]
      exact ⟨0, 0, 0, ⟨by decide, by decide⟩, ⟨by decide, by decide⟩, ⟨by decide, by decide⟩, by decide, rfl⟩
    go_enter Tryz.func162, Tryz.ntmps162
    go_wp2
    refine bodyPost_ret (by simp [results, Tryz.results162, go_sem]) rfl ⟨_, fin, rfl, ?_⟩
    exact bel_alloc (bel_alloc (Below.refl _ _) _) _

/-- The number of two words, shifted, modulo 2^128. -/
def shlV2 (v : Int) (k : Nat) : Int := v * 2 ^ k % 340282366920938463463374607431768211456
theorem shl2_eq {h l h' m' l' : Int} {k : Nat} (w2 : Word m') (w3 : Word l') (hv : V3 h' m' l' = wshlV (V3 0 h l) k) : V2 m' l' = shlV2 (V2 h l) k := by
  have e : V3 0 h l = V2 h l := by unfold V3 V2; omega
  obtain ⟨_, _⟩ := w2; obtain ⟨_, _⟩ := w3
  rw [e] at hv
  unfold wshlV at hv
  unfold shlV2
  unfold V3 at hv
  generalize V2 h l * 2 ^ k = x at *
  unfold V2
  omega

set_option maxHeartbeats 1000000 in
theorem shl2 (h l n : Int) (h1 : Word h) (h2 : Word l) (hn' : -9223372036854775808 ≤ n) (w : World) :
    Calls Tryz.prog 149 #[.agg #[.int .u64 h, .int .u64 l], .int .i64 n] w (Ret (Is2 (shlV2 (V2 h l) n.toNat)) w) := by
  go_enter Tryz.func149, Tryz.ntmps149
  go_wp2_with fail
  refine (widen_any _ _ _).mono ?_
  rintro e w1 ⟨rfl, hb1⟩
  go_wp2_with fail
  refine (shl3 _ _ _ _ ⟨by decide, by decide⟩ h1 h2 hn' _).mono ?_
  rintro e w2 ⟨v, ⟨h', m', l', wh, wm, wl, hv, rfl⟩, rfl, hb2⟩
  have HV := Lib.hid hv
  clear hv
  go_wp2_with fail
  refine (wlow_any _ _ _ _).mono ?_
  rintro e w3 ⟨rfl, hb3⟩
  have hb := bel_trans (bel_alloc (bel_trans hb1 hb2) _) hb3
  have r0 := hb.cell (p := ⟨w.heap.size + 1, 0, none⟩) (by simp)
  have r1 := hb.cell (p := ⟨w.heap.size + 1, 1, none⟩) (by simp)
  have f0 := hb.frozen (p := ⟨w.heap.size + 1, 0, none⟩) (by simp)
  have f1 := hb.frozen (p := ⟨w.heap.size + 1, 1, none⟩) (by simp)
  simp [go_sem] at r0 r1 f0 f1
  have HB := Lib.hid hb
  clear hb hb1 hb2 hb3
  go_wp2
  refine bodyPost_ret (by simp [results, Tryz.results149, go_sem, r0, r1]) rfl ⟨_, ⟨m', l', wm, wl, shl2_eq wm wl HV.out, rfl⟩, rfl, ?_⟩
  exact bel_set (bel_set (bel_trans (bel_alloc (bel_alloc (Below.refl _ _) _) _) HB.out) (by simp) _) (by simp) _

/-- The number n, in three words, and whether a bit that is 1 was shifted out. -/
def IsShr3 (a : Int) (k : Nat) (v : Value) : Prop := ∃ h m l : Int, Word h ∧ Word m ∧ Word l ∧ V3 h m l = a / 2 ^ k ∧ v = .tuple #[.agg #[.int .u64 h, .int .u64 m, .int .u64 l], .bool (decide (a % 2 ^ k ≠ 0))]

theorem or_comm_u64 {a b : Int} (ha : Word a) (hb : Word b) : bits .or .u64 a b = bits .or .u64 b a := by
  obtain ⟨a, ha', rfl⟩ := word_nat ha
  obtain ⟨b, hb', rfl⟩ := word_nat hb
  rw [bits_or_u64_nat _ _ ha' hb', bits_or_u64_nat _ _ hb' ha', Nat.or_comm]
theorem word_wrap (x : Int) : Word (IntKind.u64.wrap x) := by rw [IntKind.wrap_u64]; exact word_mod _
theorem V3_pos {h m l : Int} (w1 : Word h) (w2 : Word m) (w3 : Word l) : 0 ≤ V3 h m l ∧ V3 h m l < 6277101735386680763835789423207666416102355444464034512896 := by
  obtain ⟨_, _⟩ := w1; obtain ⟨_, _⟩ := w2; obtain ⟨_, _⟩ := w3
  unfold V3
  constructor <;> omega

/-- One word down. -/
theorem shr_word (h m l j : Int) (w3 : Word l) (hj : 64 ≤ j) : V3 0 h m / 2 ^ (j - 64).toNat = V3 h m l / 2 ^ j.toNat ∧ (V3 h m l % 2 ^ j.toNat ≠ 0 ↔ l ≠ 0 ∨ V3 0 h m % 2 ^ (j - 64).toNat ≠ 0) := by
  have e : (2 : Int) ^ j.toNat = 18446744073709551616 * 2 ^ (j - 64).toNat := by
    rw [show j.toNat = 64 + (j - 64).toNat by omega, Int.pow_add]
    rfl
  have e2 : V3 h m l = V3 0 h m * 18446744073709551616 + l := by unfold V3; omega
  have hp := pow_pos' (j - 64).toNat
  obtain ⟨l0, l1⟩ := w3
  rw [e]
  generalize (2 : Int) ^ (j - 64).toNat = p at *
  generalize V3 0 h m = q at *
  rw [e2]
  have d1 : (q * 18446744073709551616 + l) / 18446744073709551616 = q := by omega
  have d2 : (q * 18446744073709551616 + l) / (18446744073709551616 * p) = q / p := by
    rw [← Int.ediv_ediv_of_nonneg (by decide), d1]
  refine ⟨d2.symm, ?_⟩
  have d3 : (q * 18446744073709551616 + l) % (18446744073709551616 * p) = (q % p) * 18446744073709551616 + l := by
    have k1 := Int.mul_ediv_add_emod (q * 18446744073709551616 + l) (18446744073709551616 * p)
    have k2 := Int.mul_ediv_add_emod q p
    rw [d2, Int.mul_assoc] at k1
    omega
  rw [d3]
  have := Int.emod_nonneg q (Int.ne_of_gt hp)
  omega

/-- Less than a word down. -/
theorem shr3_eq {h m l : Int} (w1 : Word h) (w2 : Word m) (w3 : Word l) (k : Nat) (hk : k < 64) :
    (∃ h' m' l' : Int, Word h' ∧ Word m' ∧ Word l' ∧ V3 h' m' l' = V3 h m l / 2 ^ k ∧ h' = h / 2 ^ k ∧ m' = bits BinOp.or IntKind.u64 (m / 2 ^ k) (IntKind.u64.wrap (h * 2 ^ (64 - k))) ∧ l' = bits BinOp.or IntKind.u64 (l / 2 ^ k) (IntKind.u64.wrap (m * 2 ^ (64 - k))))
      ∧ (V3 h m l % 2 ^ k ≠ 0 ↔ IntKind.u64.wrap (l * 2 ^ (64 - k)) ≠ 0) := by
  have hb := wpow_split k (by omega)
  have hp := pow_pos' k
  have hq := pow_pos' (64 - k)
  have s1 := wshr_lt m w2 (64 - k) (by omega)
  have s2 := wshr_lt l w3 (64 - k) (by omega)
  have s0 := wshr_lt h w1 (64 - k) (by omega)
  have t0 := pow_le64 (64 - k) (by omega)
  have b1 := or_lt h (64 - k) (by omega)
  have b2 := or_lt m (64 - k) (by omega)
  rw [show 64 - (64 - k) = k by omega] at s0 s1 s2
  have wr : ∀ x : Int, IntKind.u64.wrap (x * 2 ^ (64 - k)) = x % 2 ^ k * 2 ^ (64 - k) := fun x => by
    rw [IntKind.wrap_u64, ← hb, Int.mul_comm x, Int.mul_emod_mul_of_pos _ _ hq, Int.mul_comm]
  rw [or_comm_u64 (word_div w2 k) (word_wrap _), or_comm_u64 (word_div w3 k) (word_wrap _), wor_shl h _ w1 s1.1 _ (by omega) s1.2, wor_shl m _ w2 s2.1 _ (by omega) s2.2]
  have xh : IntKind.u64.wrap (h * 2 ^ (64 - k)) * 2 ^ k = h % 2 ^ k * 18446744073709551616 := by rw [wr, Int.mul_assoc, hb]
  have xm : IntKind.u64.wrap (m * 2 ^ (64 - k)) * 2 ^ k = m % 2 ^ k * 18446744073709551616 := by rw [wr, Int.mul_assoc, hb]
  have zl : IntKind.u64.wrap (l * 2 ^ (64 - k)) ≠ 0 ↔ l % 2 ^ k ≠ 0 := by
    rw [wr]
    refine ⟨fun h e => h (by rw [e]; simp), fun h e => ?_⟩
    rcases Int.mul_eq_zero.1 e with e | e
    · exact h e
    · omega
  have dh := Int.ediv_mul_add_emod h (2 ^ k)
  have dm := Int.ediv_mul_add_emod m (2 ^ k)
  have dl := Int.ediv_mul_add_emod l (2 ^ k)
  have rl := Int.emod_nonneg l (Int.ne_of_gt hp)
  have rl' := Int.emod_lt_of_pos l hp
  rw [zl]
  generalize IntKind.u64.wrap (h * 2 ^ (64 - k)) = X at *
  generalize IntKind.u64.wrap (m * 2 ^ (64 - k)) = Y at *
  have eV : V3 (h / 2 ^ k) (X + m / 2 ^ k) (Y + l / 2 ^ k) * 2 ^ k + l % 2 ^ k = V3 h m l := by
    unfold V3
    rw [Int.add_mul, Int.add_mul, Int.mul_right_comm, Int.mul_right_comm (X + m / 2 ^ k), Int.add_mul X, Int.add_mul Y]
    omega
  have eD : V3 h m l / 2 ^ k = V3 (h / 2 ^ k) (X + m / 2 ^ k) (Y + l / 2 ^ k) := by
    rw [← eV, Int.add_comm, Int.add_mul_ediv_right _ _ (Int.ne_of_gt hp), Int.ediv_eq_zero_of_lt rl rl']
    omega
  have eM : V3 h m l % 2 ^ k = l % 2 ^ k := by
    rw [← eV, Int.add_comm, Int.add_mul_emod_self_right, Int.emod_emod_of_dvd _ (Int.dvd_refl _)]
  rw [eM]
  exact ⟨⟨_, _, _, word_div w1 k, ⟨by omega, by omega⟩, ⟨by omega, by omega⟩, eD.symm, rfl, rfl, rfl⟩, Iff.rfl⟩

theorem shr_done {h m l j : Int} {lo : Bool} {a : Int} {k : Nat} (w1 : Word h) (w2 : Word m) (w3 : Word l) (hj0 : 0 ≤ j) (hj : j < 64) (hd : V3 h m l / 2 ^ j.toNat = a / 2 ^ k)
    (hm : (lo || decide (V3 h m l % 2 ^ j.toNat ≠ 0)) = decide (a % 2 ^ k ≠ 0)) :
    IsShr3 a k (.tuple #[.agg #[.int .u64 (h / 2 ^ j.toNat), .int .u64 (bits BinOp.or IntKind.u64 (m / 2 ^ j.toNat) (IntKind.u64.wrap (h * 2 ^ (64 - j).toNat))), .int .u64 (bits BinOp.or IntKind.u64 (l / 2 ^ j.toNat) (IntKind.u64.wrap (m * 2 ^ (64 - j).toNat)))], .bool (lo || IntKind.u64.wrap (l * 2 ^ (64 - j).toNat) != 0)]) := by
  rw [toNat_sub64 hj0 hj]
  obtain ⟨⟨h', m', l', g1, g2, g3, g4, rfl, rfl, rfl⟩, g5⟩ := shr3_eq w1 w2 w3 j.toNat (by omega)
  have e : (IntKind.u64.wrap (l * 2 ^ (64 - j.toNat)) != 0) = decide (V3 h m l % 2 ^ j.toNat ≠ 0) := by
    rw [Bool.eq_iff_iff]
    simp only [bne_iff_ne, decide_eq_true_eq]
    exact g5.symm
  rw [e, hm]
  exact ⟨_, _, _, g1, g2, g3, g4.trans hd, rfl⟩

set_option maxHeartbeats 6400000 in
theorem shr3_small (ah am al n : Int) (h1 : Word ah) (h2 : Word am) (h3 : Word al) (hn : n < 192) (hn' : -9223372036854775808 ≤ n) (w : World) :
    Calls Tryz.prog 164 #[.agg #[.int .u64 ah, .int .u64 am, .int .u64 al], .int .i64 n] w (Ret (IsShr3 (V3 ah am al) n.toNat) w) := by
  have t0 : decide (192 ≤ n) = false := by simp; omega
  go_enter Tryz.func164, Tryz.ntmps164
  go_wp2
  go_loopw [1, 6] (fun s1 s6 wr => ∃ (j h m l : Int) (lo : Bool), 0 ≤ j ∧ j < 192 ∧ s1 = .int .i64 j ∧ s6 = .bool lo ∧ Word h ∧ Word m ∧ Word l ∧ V3 h m l / 2 ^ j.toNat = V3 ah am al / 2 ^ n.toNat ∧ (lo || decide (V3 h m l % 2 ^ j.toNat ≠ 0)) = decide (V3 ah am al % 2 ^ n.toNat ≠ 0) ∧ wr = (w.alloc (.cells #[.int .u64 h, .int .u64 m, .int .u64 l] 218)).alloc (.cells #[.int .u64 0, .int .u64 0, .int .u64 0] 218)) (fun s1 _ _ => (intOf s1).toNat)
  case atStart => exact ⟨max n 0, ah, am, al, false, by omega, by omega, rfl, rfl, h1, h2, h3, by rw [show (max n 0).toNat = n.toNat by omega], by rw [show (max n 0).toNat = n.toNat by omega]; rfl, rfl⟩
  case round =>
    obtain ⟨j, h, m, l, lo, hj0, hj, rfl, rfl, wh, wm, wl, hd, hm, rfl⟩ := hrel
    have HD := Lib.hid hd
    have HM := Lib.hid hm
    clear hd hm
    by_cases hc : 64 ≤ j
    · have g := shr_word h m l j wl hc
      have HR : Hid (V3 0 h m / 2 ^ (j - 64).toNat = V3 ah am al / 2 ^ n.toNat) := g.1.trans HD.out
      have HS : Hid (((lo || l != 0) || decide (V3 0 h m % 2 ^ (j - 64).toNat ≠ 0)) = decide (V3 ah am al % 2 ^ n.toNat ≠ 0)) := by
        show _ = _
        rw [← HM.out, Bool.or_assoc]
        congr 1
        rw [Bool.eq_iff_iff]
        simp only [Bool.or_eq_true, bne_iff_ne, decide_eq_true_eq]
        exact g.2.symm
      clear g HD HM
      cases lo
      · go_wp2
        go_roundw
        case rel => exact ⟨j - 64, 0, h, m, _, by omega, by omega, rfl, rfl, ⟨by decide, by decide⟩, wh, wm, HR.out, HS.out, rfl⟩
        case measure => simp [intOf]; omega
      · go_wp2
        go_roundw
        case rel => exact ⟨j - 64, 0, h, m, _, by omega, by omega, rfl, rfl, ⟨by decide, by decide⟩, wh, wm, HR.out, HS.out, rfl⟩
        case measure => simp [intOf]; omega
    · have fin := shr_done wh wm wl hj0 (by omega) HD.out HM.out
      clear HD HM
      cases lo
      · go_wp2
        go_region
        go_wp2
        refine bodyPost_ret (by simp [results, Tryz.results164, go_sem]) rfl ⟨_, fin, rfl, ?_⟩
        exact bel_drew (bel_alloc (bel_alloc (Below.refl _ _) _) _)
      · go_wp2
        go_region
        go_wp2
        refine bodyPost_ret (by simp [results, Tryz.results164, go_sem]) rfl ⟨_, fin, rfl, ?_⟩
        exact bel_drew (bel_alloc (bel_alloc (Below.refl _ _) _) _)

theorem shr_big {v : Int} {k : Nat} (h0 : 0 ≤ v) (h1 : v < 6277101735386680763835789423207666416102355444464034512896) (hk : 192 ≤ k) : v / 2 ^ k = 0 ∧ v % 2 ^ k = v := by
  have e : (2 : Int) ^ k = 6277101735386680763835789423207666416102355444464034512896 * 2 ^ (k - 192) := by
    rw [show k = 192 + (k - 192) by omega, Int.pow_add, show (2 : Int) ^ 192 = 6277101735386680763835789423207666416102355444464034512896 by decide, show 192 + (k - 192) - 192 = k - 192 by omega]
  have hp := pow_pos' (k - 192)
  have : v < 2 ^ k := by
    have : 6277101735386680763835789423207666416102355444464034512896 * 1 ≤ 6277101735386680763835789423207666416102355444464034512896 * (2 : Int) ^ (k - 192) := Int.mul_le_mul_of_nonneg_left (by omega) (by decide)
    omega
  exact ⟨Int.ediv_eq_zero_of_lt h0 this, Int.emod_eq_of_lt h0 this⟩
theorem V3_zero {h m l : Int} (w1 : Word h) (w2 : Word m) (w3 : Word l) : V3 h m l ≠ 0 ↔ ¬ (h = 0 ∧ m = 0 ∧ l = 0) := by
  obtain ⟨_, _⟩ := w1; obtain ⟨_, _⟩ := w2; obtain ⟨_, _⟩ := w3
  unfold V3
  omega

set_option maxHeartbeats 3200000 in
theorem shr3 (ah am al n : Int) (h1 : Word ah) (h2 : Word am) (h3 : Word al) (hn' : -9223372036854775808 ≤ n) (w : World) :
    Calls Tryz.prog 164 #[.agg #[.int .u64 ah, .int .u64 am, .int .u64 al], .int .i64 n] w (Ret (IsShr3 (V3 ah am al) n.toNat) w) := by
  by_cases hn : n < 192
  · exact shr3_small ah am al n h1 h2 h3 hn hn' w
  · have g := V3_pos h1 h2 h3
    have b := shr_big g.1 g.2 (k := n.toNat) (by omega)
    have z := V3_zero h1 h2 h3
    have fin : IsShr3 (V3 ah am al) n.toNat (.tuple #[.agg #[.int .u64 0, .int .u64 0, .int .u64 0], .bool (decide (V3 ah am al ≠ 0))]) := by
      refine ⟨0, 0, 0, ⟨by decide, by decide⟩, ⟨by decide, by decide⟩, ⟨by decide, by decide⟩, by rw [b.1]; decide, by rw [b.2]⟩
    clear g b
    by_cases hz : ah = 0 ∧ am = 0 ∧ al = 0
    · obtain ⟨rfl, rfl, rfl⟩ := hz
      rw [show decide (V3 0 0 0 ≠ 0) = false by decide] at fin
      clear z
      go_enter Tryz.func164, Tryz.ntmps164
      go_wp2
      go_region
      go_wp2
      refine bodyPost_ret (by simp [results, Tryz.results164, go_sem]) rfl ⟨_, fin, rfl, ?_⟩
      exact bel_drew (bel_alloc (bel_alloc (Below.refl _ _) _) _)
    · rw [show decide (V3 ah am al ≠ 0) = true by simp only [decide_eq_true_eq]; exact z.2 hz] at fin
      clear z
      by_cases z1 : ah = 0
      · subst z1
        by_cases z2 : am = 0
        · subst z2
          have z3 : ¬ al = 0 := fun e => hz ⟨rfl, rfl, e⟩
          clear hz
          go_enter Tryz.func164, Tryz.ntmps164
          go_wp2
          go_region
          go_wp2
          refine bodyPost_ret (by simp [results, Tryz.results164, go_sem]) rfl ⟨_, fin, rfl, ?_⟩
          exact bel_drew (bel_alloc (bel_alloc (Below.refl _ _) _) _)
        · clear hz
          go_enter Tryz.func164, Tryz.ntmps164
          go_wp2
          go_region
          go_wp2
          refine bodyPost_ret (by simp [results, Tryz.results164, go_sem]) rfl ⟨_, fin, rfl, ?_⟩
          exact bel_drew (bel_alloc (bel_alloc (Below.refl _ _) _) _)
      · clear hz
        go_enter Tryz.func164, Tryz.ntmps164
        go_wp2
        go_region
        go_wp2
        refine bodyPost_ret (by simp [results, Tryz.results164, go_sem]) rfl ⟨_, fin, rfl, ?_⟩
        exact bel_drew (bel_alloc (bel_alloc (Below.refl _ _) _) _)

/-- The number, in two words, shifted down, and whether a bit that is 1 was shifted out. -/
def IsShr2 (a : Int) (k : Nat) (v : Value) : Prop := ∃ h l : Int, Word h ∧ Word l ∧ V2 h l = a / 2 ^ k ∧ v = .tuple #[.agg #[.int .u64 h, .int .u64 l], .bool (decide (a % 2 ^ k ≠ 0))]
theorem shr2_eq {h l h' m' l' : Int} {k : Nat} (w1 : Word h) (w2 : Word l) (g1 : Word h') (g2 : Word m') (g3 : Word l') (hv : V3 h' m' l' = V3 0 h l / 2 ^ k) : V2 m' l' = V2 h l / 2 ^ k := by
  have e : V3 0 h l = V2 h l := by unfold V3 V2; omega
  have hb : V2 h l / 2 ^ k ≤ V2 h l := Int.ediv_le_self _ (by obtain ⟨_, _⟩ := w1; obtain ⟨_, _⟩ := w2; unfold V2; omega)
  rw [e] at hv
  rw [← hv] at hb ⊢
  obtain ⟨_, _⟩ := w1; obtain ⟨_, _⟩ := w2; obtain ⟨_, _⟩ := g1; obtain ⟨_, _⟩ := g2; obtain ⟨_, _⟩ := g3
  unfold V3 V2 at *
  omega

set_option maxHeartbeats 1000000 in
theorem shr2 (h l n : Int) (h1 : Word h) (h2 : Word l) (hn' : -9223372036854775808 ≤ n) (w : World) :
    Calls Tryz.prog 150 #[.agg #[.int .u64 h, .int .u64 l], .int .i64 n] w (Ret (IsShr2 (V2 h l) n.toNat) w) := by
  go_enter Tryz.func150, Tryz.ntmps150
  go_wp2_with fail
  refine (widen_any _ _ _).mono ?_
  rintro e w1 ⟨rfl, hb1⟩
  go_wp2_with fail
  refine (shr3 _ _ _ _ ⟨by decide, by decide⟩ h1 h2 hn' _).mono ?_
  rintro e w2 ⟨v, ⟨h', m', l', wh, wm, wl, hv, rfl⟩, rfl, hb2⟩
  have HV := Lib.hid hv
  clear hv
  have e0 : V3 0 h l = V2 h l := by unfold V3 V2; omega
  rw [e0]
  clear e0
  generalize hlo : decide (V2 h l % 2 ^ n.toNat ≠ 0) = lo
  have fin : IsShr2 (V2 h l) n.toNat (.tuple #[.agg #[.int .u64 m', .int .u64 l'], .bool lo]) := ⟨m', l', wm, wl, shr2_eq h1 h2 wh wm wl HV.out, by rw [← hlo]⟩
  clear hlo HV
  go_wp2_with fail
  refine (wlow_any _ _ _ _).mono ?_
  rintro e w3 ⟨rfl, hb3⟩
  have hb := bel_trans (bel_alloc (bel_trans hb1 hb2) _) hb3
  have r0 := hb.cell (p := ⟨w.heap.size + 1, 0, none⟩) (by simp)
  have r1 := hb.cell (p := ⟨w.heap.size + 1, 1, none⟩) (by simp)
  have f0 := hb.frozen (p := ⟨w.heap.size + 1, 0, none⟩) (by simp)
  have f1 := hb.frozen (p := ⟨w.heap.size + 1, 1, none⟩) (by simp)
  simp [go_sem] at r0 r1 f0 f1
  have HB := Lib.hid hb
  clear hb hb1 hb2 hb3
  go_wp2
  refine bodyPost_ret (by simp [results, Tryz.results150, go_sem, r0, r1]) rfl ⟨_, fin, rfl, ?_⟩
  exact bel_set (bel_set (bel_trans (bel_alloc (bel_alloc (Below.refl _ _) _) _) HB.out) (by simp) _) (by simp) _

end Go.Proofs.YtgjgcehoakacoaaGreatDoor
