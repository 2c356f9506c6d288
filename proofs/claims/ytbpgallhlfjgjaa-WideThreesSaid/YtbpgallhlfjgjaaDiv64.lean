/-
  Contracts of math/bits.LeadingZeros64 and Div64 as the program of this seat has them. Conditions: the arguments are words of 64 bits; for Div64 the high word is below the divisor.
-/
import Derived.Test.YtbpgallhlfjgjaaDivLaws
import Derived.Deep.CutBlock
import Derived.Deep.DeepCutAuto
namespace Go.Proofs.Ytbpgallhlfjgjaa
open Go.RowKit

theorem lz_arith {y : Int} (h : Word y) (h0 : 0 < y) : ∃ s : Nat, 64 - ((Lib.bitLen y.toNat : Nat) : Int) = (s : Int) ∧ s ≤ 63 ∧ 9223372036854775808 ≤ y * 2 ^ s ∧ y * 2 ^ s < 18446744073709551616 := by
  obtain ⟨n, hn, rfl⟩ := word_nat h
  have hb := bitLen_spec n
  rw [Int.toNat_natCast, lib_bitLen n hn]
  have h1 : n ≠ 0 := by omega
  have hk : Go.bitLen n ≤ 64 := by
    have := blen_word_le h
    unfold blen at this
    rw [Int.toNat_natCast] at this
    omega
  have hk1 : 1 ≤ Go.bitLen n := by
    rcases Nat.eq_zero_or_pos (Go.bitLen n) with e | e
    · rw [e] at hb
      simp at hb
      omega
    · exact e
  have lo := hb.2 h1
  have hi := hb.1
  generalize Go.bitLen n = k at *
  refine ⟨64 - k, by omega, by omega, ?_, ?_⟩
  · have : 2 ^ (k - 1) * 2 ^ (64 - k) ≤ n * 2 ^ (64 - k) := Nat.mul_le_mul_right _ lo
    rw [← Nat.pow_add, show k - 1 + (64 - k) = 63 by omega] at this
    have h2 : ((9223372036854775808 : Nat) : Int) ≤ ((n * 2 ^ (64 - k) : Nat) : Int) := Int.ofNat_le.2 this
    simpa using h2
  · have : n * 2 ^ (64 - k) < 2 ^ k * 2 ^ (64 - k) := Nat.mul_lt_mul_of_pos_right hi (Nat.two_pow_pos _)
    rw [← Nat.pow_add, show k + (64 - k) = 64 by omega] at this
    have h2 : ((n * 2 ^ (64 - k) : Nat) : Int) < ((18446744073709551616 : Nat) : Int) := Int.ofNat_lt.2 this
    simpa using h2

theorem lz64 (y : Int) (h : Word y) (s : Nat) (e : 64 - ((Lib.bitLen y.toNat : Nat) : Int) = (s : Int)) (w : World) : Calls Try.prog 55 #[.int .u64 y] w fun e w' => e = .returned (.int .i64 (s : Int)) ∧ w = w' := by
  have b1 := (blen_word_le h).2
  rw [← blen_word h] at b1
  have E := Lib.hid e
  clear e
  go_enter Try.func55, Try.ntmps55
  go_wp2_with (go_at_call 49; refine (len64 y h _).mono ?_; rintro e w1 ⟨rfl, rfl⟩)
  go_ret
  exact ⟨ret_int E.out, rfl⟩

/-- The quotient and what is left. -/
def IsDiv64 (n y : Int) (w : World) (e : Ending) (w' : World) : Prop := ∃ q r : Int, Word q ∧ Word r ∧ r < y ∧ q * y + r = n ∧ e = .returned (.tuple #[.int .u64 q, .int .u64 r]) ∧ Below w.heap.size w w'

theorem div64_small (lo y : Int) (h2 : Word lo) (h3 : Word y) (hy : 0 < y) (w : World) : Calls Try.prog 58 #[.int .u64 0, .int .u64 lo, .int .u64 y] w (IsDiv64 lo y w) := by
  have t0 : (y == 0) = false := by simp; omega
  have t1 : ¬ y ≤ 0 := by omega
  have hne : ¬ y = 0 := by omega
  go_enter Try.func58, Try.ntmps58
  go_wp2
  go_region
  go_wp2
  go_ret2
  refine ⟨_, _, ?_, ?_, ?_, ?_, rfl, bel_drew (Below.refl _ _)⟩
  · exact word_wrap _
  · rw [Int.tmod_eq_emod_of_nonneg h2.1]
    exact ⟨Int.emod_nonneg _ hne, by have := Int.emod_lt_of_pos lo hy; have := h3.2; omega⟩
  · rw [Int.tmod_eq_emod_of_nonneg h2.1]
    exact Int.emod_lt_of_pos lo hy
  · have hq : lo.tdiv y = lo / y := Int.tdiv_eq_ediv_of_nonneg h2.1
    have h5 : 0 ≤ lo / y := Int.ediv_nonneg h2.1 (Int.le_of_lt hy)
    have h6 := Int.ediv_le_self y h2.1
    have h7 := h2.2
    rw [Int.tmod_eq_emod_of_nonneg h2.1, hq, IntKind.wrap_u64, Int.emod_eq_of_lt h5 (by omega)]
    exact Int.ediv_mul_add_emod lo y

theorem and_low (a : Int) (h : Word a) : bits BinOp.and IntKind.u64 a 4294967295 = a % 4294967296 := and_low32 a h.1 h.2

theorem bounds_of {u d y1 y0 q r : Int} (g : Guess u d y1 y0 q r) (h : Halves u d y1 y0) : 0 ≤ q ∧ q ≤ 4294967297 ∧ 0 ≤ r ∧ r < 4294967296 ∧ (2147483648 ≤ y1 ∧ y1 < 4294967296) ∧ (0 ≤ d ∧ d < 4294967296) :=
  ⟨g.q0, g.qle, g.r0, g.r1, ⟨h.y10, h.y11⟩, ⟨h.d0, h.d1⟩⟩
theorem prod_of {u d y1 y0 q r : Int} (g : Guess u d y1 y0 q r) (h : Halves u d y1 y0) (hc : ¬ 4294967296 ≤ q) : 0 ≤ q * y0 ∧ q * y0 < 18446744073709551616 := by
  have := g.q0
  have := h.y00
  have := h.y01
  have : q * y0 ≤ 4294967295 * 4294967295 := Int.mul_le_mul (by omega) (by omega) (by omega) (by decide)
  exact ⟨Int.mul_nonneg (by omega) (by omega), by omega⟩

theorem wrap_rest {u v1 q Y : Int} (hY1 : Y < 18446744073709551616) (h0 : 0 ≤ u * 4294967296 + v1 - q * Y) (h1 : u * 4294967296 + v1 - q * Y < Y) :
    IntKind.u64.wrap (IntKind.u64.wrap (IntKind.u64.wrap (u * 4294967296) + v1) - IntKind.u64.wrap (q * Y)) = u * 4294967296 + v1 - q * Y := by
  simp only [IntKind.wrap_u64]
  generalize q * Y = z at *
  omega
theorem wrap_guess {u d y1 y0 : Int} (h : Halves u d y1 y0) (_hu : u < 18446744073709551616) :
    IntKind.u64.wrap (u.tdiv y1) = u / y1 ∧ IntKind.u64.wrap (u - IntKind.u64.wrap (u / y1 * y1)) = u - u / y1 * y1 := by
  have g := guess_first h
  have e : u.tdiv y1 = u / y1 := Int.tdiv_eq_ediv_of_nonneg h.u0
  have q0 := g.q0
  have q1 := g.qle
  have r0 := g.r0
  have r1 := g.r1
  have u0 := h.u0
  have p0 : 0 ≤ u / y1 * y1 := Int.mul_nonneg q0 (by have := h.y10; omega)
  rw [e]
  simp only [IntKind.wrap_u64]
  generalize u / y1 * y1 = z at *
  constructor
  · exact Int.emod_eq_of_lt q0 (by omega)
  · omega

/-- What the two half words of the quotient come to. -/
def IsQuo (q q0 x v0 Y : Int) (s : Nat) (n y : Int) : Prop :=
  Word (IntKind.u64.wrap (IntKind.u64.wrap (q * 4294967296) + q0)) ∧ Word (IntKind.u64.wrap (IntKind.u64.wrap (IntKind.u64.wrap (x * 4294967296) + v0) - IntKind.u64.wrap (q0 * Y)) / 2 ^ s) ∧
  IntKind.u64.wrap (IntKind.u64.wrap (IntKind.u64.wrap (x * 4294967296) + v0) - IntKind.u64.wrap (q0 * Y)) / 2 ^ s < y ∧
  IntKind.u64.wrap (IntKind.u64.wrap (q * 4294967296) + q0) * y + IntKind.u64.wrap (IntKind.u64.wrap (IntKind.u64.wrap (x * 4294967296) + v0) - IntKind.u64.wrap (q0 * Y)) / 2 ^ s = n

/-- The walk of a division whose high word is not nought, its numbers named. -/
theorem div64_walk (hi lo y : Int) (h3 : Word y) (h0 : 0 < hi) (hy : hi < y) (s : Nat) (hs : s ≤ 63) (es : 64 - ((Lib.bitLen y.toNat : Nat) : Int) = (s : Int))
    (Y y1 y0 u v v1 v0 q r : Int) (hY0 : 9223372036854775808 ≤ Y) (hY1 : Y < 18446744073709551616) (rY : y * 2 ^ s = Y) (ry1 : Y / 4294967296 = y1) (ry0 : bits BinOp.and IntKind.u64 Y 4294967295 = y0)
    (ru : bits BinOp.or IntKind.u64 (IntKind.u64.wrap (hi * 2 ^ s)) (lo / 2 ^ (64 - s)) = u) (rv : IntKind.u64.wrap (lo * 2 ^ s) = v) (rv1 : v / 4294967296 = v1) (rv0 : bits BinOp.and IntKind.u64 v 4294967295 = v0)
    (hne : ¬ y1 = 0) (rq : IntKind.u64.wrap (u.tdiv y1) = q) (rr : IntKind.u64.wrap (u - IntKind.u64.wrap (q * y1)) = r) (G : Guess u v1 y1 y0 q r) (H : Halves u v1 y1 y0) (hYs : Y = y1 * 4294967296 + y0) (hv0 : 0 ≤ v0 ∧ v0 < 4294967296)
    (FIN : ∀ q q0, Found u v1 y1 y0 q → Found (u * 4294967296 + v1 - q * Y) v0 y1 y0 q0 → IsQuo q q0 (u * 4294967296 + v1 - q * Y) v0 Y s (V2 hi lo) y) (w : World) :
    Calls Try.prog 58 #[.int .u64 hi, .int .u64 lo, .int .u64 y] w (IsDiv64 (V2 hi lo) y w) := by
  have t0 : (y == 0) = false := by simp; omega
  have t1 : ¬ y ≤ hi := by omega
  have t2 : (hi == 0) = false := by simp; omega
  have t3 : (y1 == 0) = false := by simp; omega
  have ES := Lib.hid es
  clear es
  have HYS := Lib.hid hYs
  clear hYs
  have FIN' := Lib.hid FIN
  clear FIN
  go_enter Try.func58, Try.ntmps58
  go_upto_block 0 with (go_at_call 55; refine (lz64 y h3 s ES.out _).mono ?_; rintro e w1 ⟨rfl, rfl⟩)
  go_cut [15, 16] (fun s15 s16 wx => ∃ q r : Int, s15 = .int .u64 q ∧ s16 = .int .u64 r ∧ Found u v1 y1 y0 q ∧ w = wx)
  case first =>
    clear rY ry1 ry0 ru rv rv1 rv0 rq rr
    go_wp2_with fail
    go_loop [15, 16] (fun s15 s16 => ∃ q r : Int, s15 = .int .u64 q ∧ s16 = .int .u64 r ∧ Guess u v1 y1 y0 q r) (fun s15 _ => (intOf s15).toNat)
    case atStart => exact ⟨q, r, rfl, rfl, G⟩
    case round =>
      clear G
      obtain ⟨q, r, rfl, rfl, G⟩ := hrel
      obtain ⟨b1, b2, b3, b4, b5, b6⟩ := bounds_of G H
      by_cases hc : 4294967296 ≤ q
      · have N := guess_next H G (.inl hc)
        obtain ⟨n1, n2, n3, n4⟩ := N
        by_cases hr : 4294967296 ≤ r + y1
        · have F := n3 hr
          clear n3 n4 G
          go_wp2_with fail
          go_meet
          exact ⟨_, _, rfl, rfl, F, rfl⟩
        · have G' := n4 (by omega)
          clear n3 n4 G
          go_wp2_with fail
          go_round
          case rel => exact ⟨_, _, rfl, rfl, G'⟩
          case measure => simp [intOf]; omega
      · obtain ⟨p0, p1⟩ := prod_of G H hc
        have wp : IntKind.u64.wrap (q * y0) = q * y0 := by rw [IntKind.wrap_u64]; exact Int.emod_eq_of_lt p0 p1
        by_cases hd : 4294967296 * r + v1 < q * y0
        · have N := guess_next H G (.inr hd)
          obtain ⟨n1, n2, n3, n4⟩ := N
          by_cases hr : 4294967296 ≤ r + y1
          · have F := n3 hr
            clear n3 n4 G
            go_wp2_with fail
            go_meet
            exact ⟨_, _, rfl, rfl, F, rfl⟩
          · have G' := n4 (by omega)
            clear n3 n4 G
            go_wp2_with fail
            go_round
            case rel => exact ⟨_, _, rfl, rfl, G'⟩
            case measure => simp [intOf]; omega
        · have F := guess_done G hc hd
          clear G
          go_wp2_with fail
          go_meet
          exact ⟨_, _, rfl, rfl, F, rfl⟩
  case rest =>
    obtain ⟨q, r, rfl, rfl, F, rfl⟩ := hcut
    clear G
    obtain ⟨hx0, hx1⟩ := found_rest F
    have rx : IntKind.u64.wrap (IntKind.u64.wrap (IntKind.u64.wrap (u * 4294967296) + v1) - IntKind.u64.wrap (q * Y)) = u * 4294967296 + v1 - q * Y := wrap_rest hY1 (by rw [HYS.out]; exact hx0) (by rw [HYS.out]; exact hx1)
    rw [← HYS.out] at hx0 hx1
    have FIN2 := Lib.hid (fun q0 => FIN'.out q q0 F)
    generalize u * 4294967296 + v1 - q * Y = x at *
    have H2 : Halves x v0 y1 y0 := ⟨hx0, by rw [← HYS.out]; exact hx1, hv0.1, hv0.2, H.y10, H.y11, H.y00, H.y01⟩
    have G1 := guess_first H2
    obtain ⟨rq2, rr2⟩ := wrap_guess H2 (by have := hY1; omega)
    have G2 := G1
    clear G1
    generalize x / y1 = q2 at *
    generalize x - q2 * y1 = r2 at *
    clear rq rr FIN'
    go_upto_block 2 with fail
    go_cut [16, 18] (fun s16 s18 wx => ∃ q0 r : Int, s18 = .int .u64 q0 ∧ s16 = .int .u64 r ∧ Found x v0 y1 y0 q0 ∧ w = wx)
    case first =>
      clear rY ry1 ry0 ru rv rv1 rv0 rq2 rr2 rx
      go_wp2_with fail
      go_loop [16, 18] (fun s16 s18 => ∃ q r : Int, s18 = .int .u64 q ∧ s16 = .int .u64 r ∧ Guess x v0 y1 y0 q r) (fun _ s18 => (intOf s18).toNat)
      case atStart => exact ⟨_, _, rfl, rfl, G2⟩
      case round =>
        obtain ⟨q, r, rfl, rfl, G⟩ := hrel
        obtain ⟨b1, b2, b3, b4, b5, b6⟩ := bounds_of G H2
        by_cases hc : 4294967296 ≤ q
        · have N := guess_next H2 G (.inl hc)
          obtain ⟨n1, n2, n3, n4⟩ := N
          by_cases hr : 4294967296 ≤ r + y1
          · have F := n3 hr
            clear n3 n4 G
            go_wp2_with fail
            go_meet
            exact ⟨_, _, rfl, rfl, F, rfl⟩
          · have G' := n4 (by omega)
            clear n3 n4 G
            go_wp2_with fail
            go_round
            case rel => exact ⟨_, _, rfl, rfl, G'⟩
            case measure => simp [intOf]; omega
        · obtain ⟨p0, p1⟩ := prod_of G H2 hc
          have wp : IntKind.u64.wrap (q * y0) = q * y0 := by rw [IntKind.wrap_u64]; exact Int.emod_eq_of_lt p0 p1
          by_cases hd : 4294967296 * r + v0 < q * y0
          · have N := guess_next H2 G (.inr hd)
            obtain ⟨n1, n2, n3, n4⟩ := N
            by_cases hr : 4294967296 ≤ r + y1
            · have F := n3 hr
              clear n3 n4 G
              go_wp2_with fail
              go_meet
              exact ⟨_, _, rfl, rfl, F, rfl⟩
            · have G' := n4 (by omega)
              clear n3 n4 G
              go_wp2_with fail
              go_round
              case rel => exact ⟨_, _, rfl, rfl, G'⟩
              case measure => simp [intOf]; omega
          · have F := guess_done G hc hd
            clear G
            go_wp2_with fail
            go_meet
            exact ⟨_, _, rfl, rfl, F, rfl⟩
    case rest =>
      obtain ⟨q0, r, rfl, rfl, F2, rfl⟩ := hcut
      obtain ⟨k1, k2, k3, k4⟩ := FIN2.out q0 F2
      have K4 := Lib.hid k4
      clear k4 rq2 rr2 rx
      go_wp2
      go_ret2
      exact ⟨_, _, k1, k2, k3, K4.out, rfl, Below.refl _ _⟩
end Go.Proofs.Ytbpgallhlfjgjaa
