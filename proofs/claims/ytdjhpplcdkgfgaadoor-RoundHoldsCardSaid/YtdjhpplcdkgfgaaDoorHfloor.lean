/-
  The reference of layer 5: contracts of split and floor. Conditions: keys of floats, rows of not too many bits.
-/
import Derived.Test.YtdjhpplcdkgfgaaDoorHcmp
namespace Go.Proofs.YtdjhpplcdkgfgaaDoor
open Go.RowKit
set_option maxRecDepth 100000

/-- The float of a key: its integer and its exponent; and in units of the least float. -/
def gm (k : Int) : Int := if k / 4503599627370496 = 0 then k % 4503599627370496 else k % 4503599627370496 + 4503599627370496
def gy (k : Int) : Int := if k / 4503599627370496 = 0 then -1074 else k / 4503599627370496 - 1075
def gK (k : Int) : Int := gZ (k / 4503599627370496) (k % 4503599627370496)
theorem gy_bd {k : Int} (h0 : 0 ≤ k) (h1 : k ≤ 9218868437227405312) : -1074 ≤ gy k ∧ gy k ≤ 972 := by unfold gy; split <;> omega
theorem gm_word {k : Int} : Word (gm k) := by unfold gm; constructor <;> split <;> omega
theorem gK_is {k : Int} (h0 : 0 ≤ k) : gm k * 2 ^ (gy k + 1075).toNat = 2 * gK k := by
  unfold gm gy gK gZ
  by_cases h : k / 4503599627370496 = 0
  · rw [if_pos h, if_pos h, if_pos h]
    rw [show (-1074 + 1075 : Int).toNat = 1 by decide]
    omega
  · rw [if_neg h, if_neg h, if_neg h]
    rw [show (k / 4503599627370496 - 1075 + 1075).toNat = (k / 4503599627370496 - 1).toNat + 1 by omega, Int.pow_succ, Int.add_comm 4503599627370496, ← Int.mul_assoc, Int.mul_comm 2]
theorem gK_lt {k k' : Int} (h0 : 0 ≤ k) (h : k < k') : gK k < gK k' := by
  refine gZ_mono ?_ ?_ ?_ ?_ ?_ ?_ ?_ <;> omega

theorem andlow64 {k : Int} (h0 : 0 ≤ k) (h1 : k < 9223372036854775808) : bits BinOp.and IntKind.i64 k 4503599627370495 = k % 4503599627370496 := by
  obtain ⟨j, rfl⟩ := Int.eq_ofNat_of_zero_le h0
  have hj : (BitVec.ofInt 64 (j : Int)).toNat = j := by
    rw [BitVec.ofInt_natCast, BitVec.toNat_ofNat]; exact Nat.mod_eq_of_lt (by omega)
  show IntKind.i64.wrap ((BitVec.ofInt 64 (j : Int) &&& BitVec.ofInt 64 (4503599627370495 : Int)).toNat : Int) = _
  rw [BitVec.toNat_and, hj, show (BitVec.ofInt 64 (4503599627370495 : Int)).toNat = 2 ^ 52 - 1 by decide, Nat.and_two_pow_sub_one_eq_mod, IntKind.wrap_i64]
  omega

set_option maxHeartbeats 2000000 in
theorem hsplit_any (k : Int) (h0 : 0 ≤ k) (h1 : k ≤ 9218868437227405312) (w : World) : Calls Tryd.prog 97 #[.int .i64 k] w fun x w' => ∃ v, RowV w' v (gm k) 64 ∧ x = .returned (.tuple #[v, .int .i64 (gy k)]) ∧ Below w.heap.size w w' := by
  have A := andlow64 h0 (by omega)
  have hr : 0 ≤ k % 4503599627370496 ∧ k % 4503599627370496 < 4503599627370496 := by omega
  by_cases h : k / 4503599627370496 = 0
  · have e1 : gm k = k % 4503599627370496 := by unfold gm; rw [if_pos h]
    have e2 : gy k = -1074 := by unfold gy; rw [if_pos h]
    rw [e1, e2]
    go_enter Tryd.func97, Tryd.ntmps97
    go_wp2_with fail
    refine (ofV (rdw_one w _ _) ⟨hr.1, by omega⟩).mono ?_
    rintro x w1 ⟨v1, n1, rfl, hb1⟩
    obtain ⟨A1, m1, c1, rfl⟩ := n1.form
    go_wp2_with fail
    go_ret2
    exact ⟨_, n1, rfl, bel_trans (bel_alloc (Below.refl _ _) _) hb1⟩
  · have e1 : gm k = k % 4503599627370496 + 4503599627370496 := by unfold gm; rw [if_neg h]
    have e2 : gy k = k / 4503599627370496 - 1075 := by unfold gy; rw [if_neg h]
    rw [e1, e2]
    have z : (k / 4503599627370496 == 0) = false := by simp [h]
    have hq : 0 ≤ k / 4503599627370496 ∧ k / 4503599627370496 ≤ 2047 := by omega
    go_enter Tryd.func97, Tryd.ntmps97
    go_wp2_with fail
    refine (ofV (rdw_one w _ _) (m := k % 4503599627370496 + 4503599627370496) ⟨by omega, by omega⟩).mono ?_
    rintro x w1 ⟨v1, n1, rfl, hb1⟩
    obtain ⟨A1, m1, c1, rfl⟩ := n1.form
    go_wp2_with fail
    go_ret2
    exact ⟨_, n1, rfl, bel_trans (bel_alloc (Below.refl _ _) _) hb1⟩

/-- Where a number stands among the floats. -/
def IsFloor (n k : Int) : Prop := 0 ≤ k ∧ k ≤ 9218868437227405312 ∧ 2 * gK k ≤ n ∧ (k ≤ 9218868437227405311 → n < 2 * gK (k + 1))

set_option maxHeartbeats 4000000 in
theorem hfloor_any {w : World} {v : Value} {n : Int} {s : Bool} {L : Nat} (hx : XV w v n s L) (hL : L ≤ 65536) : Calls Tryd.prog 96 #[v] w fun x w' => ∃ k, IsFloor n k ∧ x = .returned (.int .i64 k) ∧ Below w.heap.size w w' := by
  have hn := hx.nonneg
  have hx' := hx
  obtain ⟨ya, yb, a, b, E, r, rfl, h2, h3, h4⟩ := hx'
  obtain ⟨A, na, ca, rfl⟩ := h2.form
  obtain ⟨B, nb, cb, rfl⟩ := h3.form
  clear h2 h3 h4
  go_enter Tryd.func96, Tryd.ntmps96
  go_wp2_with fail
  go_loopw [3, 4] (fun s3 s4 wr => ∃ lo hi : Int, s3 = .int .i64 lo ∧ s4 = .int .i64 hi ∧ 0 ≤ lo ∧ lo ≤ hi ∧ hi ≤ 9218868437227405312 ∧ Hid (2 * gK lo ≤ n) ∧ Hid (hi ≤ 9218868437227405311 → n < 2 * gK (hi + 1)) ∧ Hid (Below (w.alloc (.cells #[.slice A na ca, .slice B nb cb, .int .i64 E, .bool r] 83)).heap.size (w.alloc (.cells #[.slice A na ca, .slice B nb cb, .int .i64 E, .bool r] 83)) wr)) (fun s3 s4 _ => (intOf s4 - intOf s3).toNat)
  case atStart =>
    refine ⟨0, 9218868437227405312, rfl, rfl, Int.le_refl _, by decide, Int.le_refl _, ?_, fun h => absurd h (by decide), Below.refl _ _⟩
    show 2 * gK 0 ≤ n
    rw [show gK 0 = 0 by decide]
    omega
  case round =>
    obtain ⟨lo, hi, rfl, rfl, h0, h1, h2, HL, HH, HB⟩ := hrel
    by_cases hlt : lo < hi
    · have c0 := HB.out.cell (p := ⟨w.heap.size, 0, none⟩) (by simp)
      have c1 := HB.out.cell (p := ⟨w.heap.size, 1, none⟩) (by simp)
      have c2 := HB.out.cell (p := ⟨w.heap.size, 2, none⟩) (by simp)
      have c3 := HB.out.cell (p := ⟨w.heap.size, 3, none⟩) (by simp)
      simp [go_sem] at c0 c1 c2 c3
      obtain ⟨K, hK⟩ : ∃ K, K = hi - (hi - lo) / 2 := ⟨_, rfl⟩
      have hK' : hi - (hi - lo) / 2 = K := hK.symm
      have k1 : lo < K ∧ K ≤ hi := by omega
      clear hK
      have HBw : Below w.heap.size w wr := bel_trans (bel_alloc (Below.refl _ _) _) HB.out
      have ey := gy_bd (k := K) (by omega) (by omega)
      go_wp2_with fail
      refine (hsplit_any K (by omega) (by omega) _).mono ?_
      rintro x w1 ⟨v1, n1, rfl, hb1⟩
      obtain ⟨A1, m1, l1, rfl⟩ := n1.form
      have d0 := kp_c hb1 c0
      have d1 := kp_c hb1 c1
      have d2 := kp_c hb1 c2
      have d3 := kp_c hb1 c3
      go_wp2_with fail
      refine (hcmp_any (hx.below (bel_trans HBw hb1)) n1 hL (by decide) ⟨by omega, by omega⟩).mono ?_
      rintro x w2 ⟨rfl, hb2⟩
      rw [gK_is (k := K) (by omega)]
      have hbd := cmpS_bd n s (2 * gK K)
      have hge := cmpS_ge (n := n) (s := s) (t := 2 * gK K)
      have HB2 : Hid (Below (w.alloc (.cells #[.slice A na ca, .slice B nb cb, .int .i64 E, .bool r] 83)).heap.size (w.alloc (.cells #[.slice A na ca, .slice B nb cb, .int .i64 E, .bool r] 83)) w2) := bel_trans HB.out (bel_trans hb1 hb2)
      have HG := Lib.hid hge
      clear hge hb1 hb2
      generalize cmpS n s (2 * gK K) = c at *
      by_cases hc : 0 ≤ c
      · go_wp2_with fail
        go_roundw
        case rel => exact ⟨K, hi, rfl, rfl, by omega, k1.2, h2, HG.out.1 hc, HH, HB2⟩
        case measure => simp [intOf]; omega
      · go_wp2_with fail
        go_roundw
        case rel => exact ⟨lo, K - 1, rfl, rfl, h0, by omega, by omega, HL, (by intro _; rw [show K - 1 + 1 = K by omega]; have := HG.out; omega), HB2⟩
        case measure => simp [intOf]; omega
    · have : hi = lo := by omega
      subst this
      have fin : IsFloor n hi := ⟨h0, h2, HL.out, HH.out⟩
      go_wp2_with fail
      go_ret
      exact ⟨hi, fin, rfl, bel_trans (bel_alloc (Below.refl _ _) _) HB.out⟩
end Go.Proofs.YtdjhpplcdkgfgaaDoor
