/-
  The reference of layer 5: contracts of cmp and split; how numbers of the reference stand in halves of the least unit. Conditions: rows of not too many bits.
  The reference of layer 5: contracts of split and floor. Conditions: keys of floats, rows of not too many bits.
  The reference of layer 5: the contract of Magnitude. Conditions: rows of not too many bits.
  The reference of layer 5: the walk of Magnitude. Conditions: rows of not too many bits.
  The reference of layer 5: contracts of Signed, Round and Exact. Conditions: rows of not too many bits.
-/
import Derived.Test.YtkhddadhkkffnaaGreatDoorMDa
import Derived.Test.YtkhddadhkkffnaaGreatDoorMPb
namespace Go.Proofs.YtkhddadhkkffnaaGreatDoor
open Go.RowKit
set_option maxRecDepth 100000

/-- How a number n, and perhaps more, compares with t. -/
def cmpS (n : Int) (s : Bool) (t : Int) : Int := if n < t then -1 else if n = t ∧ s = false then 0 else 1
theorem cmpS_bd (n : Int) (s : Bool) (t : Int) : -1 ≤ cmpS n s t ∧ cmpS n s t ≤ 1 := by unfold cmpS; split <;> (try split) <;> omega
theorem cmpS_ge {n t : Int} {s : Bool} : 0 ≤ cmpS n s t ↔ t ≤ n := by unfold cmpS; split <;> (try split) <;> omega
theorem cmpI_scale {a b c : Int} (hc : 0 < c) : cmpI (a * c) (b * c) = cmpI a b := by
  have h1 : a * c < b * c ↔ a < b := ⟨fun h => Int.lt_of_mul_lt_mul_right h (Int.le_of_lt hc), fun h => Int.mul_lt_mul_of_pos_right h hc⟩
  have h2 : b * c < a * c ↔ b < a := ⟨fun h => Int.lt_of_mul_lt_mul_right h (Int.le_of_lt hc), fun h => Int.mul_lt_mul_of_pos_right h hc⟩
  unfold cmpI
  simp only [h1, h2]
theorem cmp_floor {P Q t : Int} (hQ : 0 < Q) : cmpI P (t * Q) = cmpS (P / Q) (decide (P % Q ≠ 0)) t := by
  have d := Int.ediv_mul_add_emod P Q
  have r0 := Int.emod_nonneg P (Int.ne_of_gt hQ)
  have r1 := Int.emod_lt_of_pos P hQ
  generalize P / Q = n at *
  generalize P % Q = r at *
  rcases Int.lt_trichotomy n t with h | h | h
  · have : (n + 1) * Q ≤ t * Q := Int.mul_le_mul_of_nonneg_right (by omega) (Int.le_of_lt hQ)
    rw [Int.add_mul] at this
    rw [cmpI_lt (by omega)]
    unfold cmpS
    rw [if_pos h]
  · subst h
    unfold cmpS
    rw [if_neg (by omega)]
    by_cases hr : r = 0
    · subst hr
      rw [show P = n * Q by omega, cmpI_eq]
      simp
    · rw [cmpI_gt (by omega)]
      simp [hr]
  · have : (t + 1) * Q ≤ n * Q := Int.mul_le_mul_of_nonneg_right (by omega) (Int.le_of_lt hQ)
    rw [Int.add_mul] at this
    rw [cmpI_gt (by omega)]
    unfold cmpS
    rw [if_neg (by omega), if_neg (by omega)]
theorem cmpS_rest (n t : Int) (s r : Bool) : (if cmpS n s t = 0 ∧ r = true then 1 else cmpS n s t) = cmpS n (s || r) t := by
  unfold cmpS
  cases s <;> cases r <;> (repeat' split) <;> simp_all

/-- The numbers a / b * 2^E of the reference. -/
def hN (a b E : Int) : Int := a * 2 ^ eP E / (b * 2 ^ eQ E)
def hS (a b E : Int) (r : Bool) : Bool := decide (a * 2 ^ eP E % (b * 2 ^ eQ E) ≠ 0) || r
theorem hcmp_eq {a b E m e : Int} (hb : 0 < b) (he : -1075 ≤ e) :
    cmpI (2 ^ (E - min E e).toNat * a) (2 ^ (e - min E e).toNat * (m * b)) = cmpS (hN a b E) (decide (a * 2 ^ eP E % (b * 2 ^ eQ E) ≠ 0)) (m * 2 ^ (e + 1075).toNat) := by
  have hq : 0 < b * 2 ^ eQ E := Int.mul_pos hb (pow_pos' _)
  unfold hN
  rw [← cmp_floor hq, ← cmpI_scale (pow_pos' (eP E)), ← cmpI_scale (a := a * 2 ^ eP E) (pow_pos' (E - min E e).toNat)]
  congr 1
  · rw [Int.mul_comm (2 ^ (E - min E e).toNat) a, Int.mul_right_comm]
  · have h1 : (2 : Int) ^ (e - min E e).toNat * 2 ^ eP E = 2 ^ (e + 1075).toNat * 2 ^ eQ E * 2 ^ (E - min E e).toNat := by
      rw [← Int.pow_add, ← Int.pow_add, ← Int.pow_add]
      congr 1
      unfold eP eQ
      omega
    rw [Int.mul_comm (2 ^ (e - min E e).toNat), Int.mul_assoc, h1]
    simp only [Int.mul_assoc, Int.mul_left_comm b]

/-- A number of the reference in memory. -/
def XV (w : World) (v : Value) (n : Int) (s : Bool) (L : Nat) : Prop := ∃ ya yb a b E r, v = .agg #[ya, yb, .int .i64 E, .bool r] ∧ RowV w ya a L ∧ RowV w yb b L ∧ 0 < b ∧ -5000 ≤ E ∧ E ≤ 5000 ∧ hN a b E = n ∧ hS a b E r = s
theorem XV.below {w w' : World} {v : Value} {n : Int} {s : Bool} {L : Nat} (h : XV w v n s L) (hb : Below w.heap.size w w') : XV w' v n s L := by
  obtain ⟨ya, yb, a, b, E, r, h1, h2, h3, h4⟩ := h
  exact ⟨ya, yb, a, b, E, r, h1, h2.below hb, h3.below hb, h4⟩
theorem XV.nonneg {w : World} {v : Value} {n : Int} {s : Bool} {L : Nat} (h : XV w v n s L) : 0 ≤ n := by
  obtain ⟨ya, yb, a, b, E, r, h1, h2, h3, h4, _, _, h5, _⟩ := h
  rw [← h5]
  exact Int.ediv_nonneg (Int.mul_nonneg h2.nonneg (Int.le_of_lt (pow_pos' _))) (Int.le_of_lt (Int.mul_pos h4 (pow_pos' _)))

set_option maxHeartbeats 4000000 in
theorem hcmp_any {w : World} {v y : Value} {n m e : Int} {s : Bool} {L K : Nat} (hx : XV w v n s L) (hy : RowV w y m K) (hL : L ≤ 65536) (hK : K ≤ 65536) (he : -1075 ≤ e ∧ e ≤ 5000) :
    Calls Tryz.prog 167 #[v, y, .int .i64 e] w fun x w' => x = .returned (.int .i64 (cmpS n s (m * 2 ^ (e + 1075).toNat))) ∧ Below w.heap.size w w' := by
  obtain ⟨ya, yb, a, b, E, r, rfl, h2, h3, h4, h5, h6, rfl, rfl⟩ := hx
  have EQ := hcmp_eq (a := a) (E := E) (m := m) (e := e) h4 he.1
  have FIN := cmpS_rest (hN a b E) (m * 2 ^ (e + 1075).toNat) (decide (a * 2 ^ eP E % (b * 2 ^ eQ E) ≠ 0)) r
  rw [← EQ] at FIN
  have FIN' : Hid ((if cmpI (2 ^ (E - min E e).toNat * a) (2 ^ (e - min E e).toNat * (m * b)) = 0 ∧ r = true then 1 else cmpI (2 ^ (E - min E e).toNat * a) (2 ^ (e - min E e).toNat * (m * b))) = cmpS (hN a b E) (hS a b E r) (m * 2 ^ (e + 1075).toNat)) := FIN
  clear EQ FIN
  obtain ⟨A, na, ca, rfl⟩ := h2.form
  obtain ⟨B, nb, cb, rfl⟩ := h3.form
  obtain ⟨C, nc, cc, rfl⟩ := hy.form
  have h4' := Lib.hid h4
  generalize hlow : min E e = low at *
  have hl1 : 0 ≤ E - low ∧ E - low ≤ 20000 := by omega
  have hl2 : 0 ≤ e - low ∧ e - low ≤ 20000 := by omega
  go_enter Tryz.func167, Tryz.ntmps167
  go_wp2_with fail
  refine (shlV (h2.alloc _) (by omega) hl1.1 (by omega) (L + (E - low).toNat) (by omega)).mono ?_
  rintro x w1 ⟨v1, n1, rfl, hb1⟩
  obtain ⟨A1, m1, c1, rfl⟩ := n1.form
  have c0 := hb1.cell (p := ⟨w.heap.size, 0, none⟩) (by simp)
  have c1 := hb1.cell (p := ⟨w.heap.size, 1, none⟩) (by simp)
  have c2 := hb1.cell (p := ⟨w.heap.size, 2, none⟩) (by simp)
  have c3 := hb1.cell (p := ⟨w.heap.size, 3, none⟩) (by simp)
  simp [go_sem] at c0 c1 c2 c3
  have hb1' : Below w.heap.size w w1 := bel_trans (bel_alloc (Below.refl _ _) _) hb1
  go_wp2_with fail
  refine (rmulV (hy.below hb1') (h3.below hb1') (by omega) (by omega)).mono ?_
  rintro x w2 ⟨v2, n2, rfl, hb2⟩
  obtain ⟨A2, m2, c2', rfl⟩ := n2.form
  go_wp2_with fail
  refine (shlV n2 (by omega) hl2.1 (by omega) (K + L + 1 + (e - low).toNat) (by omega)).mono ?_
  rintro x w3 ⟨v3, n3, rfl, hb3⟩
  obtain ⟨A3, m3, c3', rfl⟩ := n3.form
  go_wp2_with fail
  refine (rcmpV (n1.below (bel_trans hb2 hb3)) n3 (by omega) (by omega)).mono ?_
  rintro x w4 ⟨rfl, rfl⟩
  have k3 := kp_c (bel_trans hb2 hb3) c3
  have HB := Lib.hid (bel_trans hb1' (bel_trans hb2 hb3))
  have hbd := cmpI_bd (2 ^ (E - low).toNat * a) (2 ^ (e - low).toNat * (m * b))
  generalize cmpI (2 ^ (E - low).toNat * a) (2 ^ (e - low).toNat * (m * b)) = c at *
  by_cases h0 : c = 0
  · subst h0
    cases r
    · go_wp2_with fail
      go_ret
      exact ⟨ret_int FIN'.out, HB.out⟩
    · go_wp2_with fail
      go_ret
      exact ⟨ret_int FIN'.out, HB.out⟩
  · have z : (c == 0) = false := by simp [h0]
    have F := FIN'.out
    rw [if_neg (by intro h; exact h0 h.1)] at F
    have F' := Lib.hid F
    clear F FIN'
    go_wp2_with fail
    go_ret
    exact ⟨ret_int F'.out, HB.out⟩
end Go.Proofs.YtkhddadhkkffnaaGreatDoor
namespace Go.Proofs.YtkhddadhkkffnaaGreatDoor
open Go.RowKit
set_option maxRecDepth 100000

/-- The float of a key: its integer and its exponent; and in units of the least float. -/
def gm (k : Int) : Int := if k / 4503599627370496 = 0 then k % 4503599627370496 else k % 4503599627370496 + 4503599627370496
def gy (k : Int) : Int := if k / 4503599627370496 = 0 then -1074 else k / 4503599627370496 - 1075
def gK (k : Int) : Int := gZ (k / 4503599627370496) (k % 4503599627370496)
theorem gy_bd {k : Int} (h0 : 0 ≤ k) (h1 : k ≤ 9218868437227405312) : -1074 ≤ gy k ∧ gy k ≤ 972 := by unfold gy; split <;> omega
theorem gm_word {k : Int} : Word (gm k) := by unfold gm; constructor <;> split <;> omega
theorem gK_is {k : Int} (h0 : 0 ≤ k) : gm k * 2 ^ (gy k + 1075).toNat = 2 * gK k := by
  unfold gm gy gK gZ
  by_cases h : k / 4503599627370496 = 0
  · rw [if_pos h, if_pos h, if_pos h]
    rw [show (-1074 + 1075 : Int).toNat = 1 by decide]
    omega
  · rw [if_neg h, if_neg h, if_neg h]
    rw [show (k / 4503599627370496 - 1075 + 1075).toNat = (k / 4503599627370496 - 1).toNat + 1 by omega, Int.pow_succ, Int.add_comm 4503599627370496, ← Int.mul_assoc, Int.mul_comm 2]
theorem gK_lt {k k' : Int} (h0 : 0 ≤ k) (h : k < k') : gK k < gK k' := by
  refine gZ_mono ?_ ?_ ?_ ?_ ?_ ?_ ?_ <;> omega

theorem andlow64 {k : Int} (h0 : 0 ≤ k) (h1 : k < 9223372036854775808) : bits BinOp.and IntKind.i64 k 4503599627370495 = k % 4503599627370496 := by
  obtain ⟨j, rfl⟩ := Int.eq_ofNat_of_zero_le h0
  have hj : (BitVec.ofInt 64 (j : Int)).toNat = j := by
    rw [BitVec.ofInt_natCast, BitVec.toNat_ofNat]; exact Nat.mod_eq_of_lt (by omega)
  show IntKind.i64.wrap ((BitVec.ofInt 64 (j : Int) &&& BitVec.ofInt 64 (4503599627370495 : Int)).toNat : Int) = _
  rw [BitVec.toNat_and, hj, show (BitVec.ofInt 64 (4503599627370495 : Int)).toNat = 2 ^ 52 - 1 by decide, Nat.and_two_pow_sub_one_eq_mod, IntKind.wrap_i64]
  omega

set_option maxHeartbeats 2000000 in
theorem hsplit_any (k : Int) (h0 : 0 ≤ k) (h1 : k ≤ 9218868437227405312) (w : World) : Calls Tryz.prog 166 #[.int .i64 k] w fun x w' => ∃ v, RowV w' v (gm k) 64 ∧ x = .returned (.tuple #[v, .int .i64 (gy k)]) ∧ Below w.heap.size w w' := by
  have A := andlow64 h0 (by omega)
  have hr : 0 ≤ k % 4503599627370496 ∧ k % 4503599627370496 < 4503599627370496 := by omega
  by_cases h : k / 4503599627370496 = 0
  · have e1 : gm k = k % 4503599627370496 := by unfold gm; rw [if_pos h]
    have e2 : gy k = -1074 := by unfold gy; rw [if_pos h]
    rw [e1, e2]
    go_enter Tryz.func166, Tryz.ntmps166
    go_wp2_with fail
    refine (ofV (rdw_one w _ _) ⟨hr.1, by omega⟩).mono ?_
    rintro x w1 ⟨v1, n1, rfl, hb1⟩
    obtain ⟨A1, m1, c1, rfl⟩ := n1.form
    go_wp2_with fail
    go_ret2
    exact ⟨_, n1, rfl, bel_trans (bel_alloc (Below.refl _ _) _) hb1⟩
  · have e1 : gm k = k % 4503599627370496 + 4503599627370496 := by unfold gm; rw [if_neg h]
    have e2 : gy k = k / 4503599627370496 - 1075 := by unfold gy; rw [if_neg h]
    rw [e1, e2]
    have z : (k / 4503599627370496 == 0) = false := by simp [h]
    have hq : 0 ≤ k / 4503599627370496 ∧ k / 4503599627370496 ≤ 2047 := by omega
    go_enter Tryz.func166, Tryz.ntmps166
    go_wp2_with fail
    refine (ofV (rdw_one w _ _) (m := k % 4503599627370496 + 4503599627370496) ⟨by omega, by omega⟩).mono ?_
    rintro x w1 ⟨v1, n1, rfl, hb1⟩
    obtain ⟨A1, m1, c1, rfl⟩ := n1.form
    go_wp2_with fail
    go_ret2
    exact ⟨_, n1, rfl, bel_trans (bel_alloc (Below.refl _ _) _) hb1⟩

/-- Where a number stands among the floats. -/
def IsFloor (n k : Int) : Prop := 0 ≤ k ∧ k ≤ 9218868437227405312 ∧ 2 * gK k ≤ n ∧ (k ≤ 9218868437227405311 → n < 2 * gK (k + 1))

set_option maxHeartbeats 4000000 in
theorem hfloor_any {w : World} {v : Value} {n : Int} {s : Bool} {L : Nat} (hx : XV w v n s L) (hL : L ≤ 65536) : Calls Tryz.prog 165 #[v] w fun x w' => ∃ k, IsFloor n k ∧ x = .returned (.int .i64 k) ∧ Below w.heap.size w w' := by
  have hn := hx.nonneg
  have hx' := hx
  obtain ⟨ya, yb, a, b, E, r, rfl, h2, h3, h4⟩ := hx'
  obtain ⟨A, na, ca, rfl⟩ := h2.form
  obtain ⟨B, nb, cb, rfl⟩ := h3.form
  clear h2 h3 h4
  go_enter Tryz.func165, Tryz.ntmps165
  go_wp2_with fail
  go_loopw [3, 4] (fun s3 s4 wr => ∃ lo hi : Int, s3 = .int .i64 lo ∧ s4 = .int .i64 hi ∧ 0 ≤ lo ∧ lo ≤ hi ∧ hi ≤ 9218868437227405312 ∧ Hid (2 * gK lo ≤ n) ∧ Hid (hi ≤ 9218868437227405311 → n < 2 * gK (hi + 1)) ∧ Hid (Below (w.alloc (.cells #[.slice A na ca, .slice B nb cb, .int .i64 E, .bool r] 142)).heap.size (w.alloc (.cells #[.slice A na ca, .slice B nb cb, .int .i64 E, .bool r] 142)) wr)) (fun s3 s4 _ => (intOf s4 - intOf s3).toNat)
  case atStart =>
    refine ⟨0, 9218868437227405312, rfl, rfl, Int.le_refl _, by decide, Int.le_refl _, ?_, fun h => absurd h (by decide), Below.refl _ _⟩
    show 2 * gK 0 ≤ n
    rw [show gK 0 = 0 by decide]
    omega
  case round =>
    obtain ⟨lo, hi, rfl, rfl, h0, h1, h2, HL, HH, HB⟩ := hrel
    by_cases hlt : lo < hi
    · have c0 := HB.out.cell (p := ⟨w.heap.size, 0, none⟩) (by simp)
      have c1 := HB.out.cell (p := ⟨w.heap.size, 1, none⟩) (by simp)
      have c2 := HB.out.cell (p := ⟨w.heap.size, 2, none⟩) (by simp)
      have c3 := HB.out.cell (p := ⟨w.heap.size, 3, none⟩) (by simp)
      simp [go_sem] at c0 c1 c2 c3
      obtain ⟨K, hK⟩ : ∃ K, K = hi - (hi - lo) / 2 := ⟨_, rfl⟩
      have hK' : hi - (hi - lo) / 2 = K := hK.symm
      have k1 : lo < K ∧ K ≤ hi := by omega
      clear hK
      have HBw : Below w.heap.size w wr := bel_trans (bel_alloc (Below.refl _ _) _) HB.out
      have ey := gy_bd (k := K) (by omega) (by omega)
      go_wp2_with fail
      refine (hsplit_any K (by omega) (by omega) _).mono ?_
      rintro x w1 ⟨v1, n1, rfl, hb1⟩
      obtain ⟨A1, m1, l1, rfl⟩ := n1.form
      have d0 := kp_c hb1 c0
      have d1 := kp_c hb1 c1
      have d2 := kp_c hb1 c2
      have d3 := kp_c hb1 c3
      go_wp2_with fail
      refine (hcmp_any (hx.below (bel_trans HBw hb1)) n1 hL (by decide) ⟨by omega, by omega⟩).mono ?_
      rintro x w2 ⟨rfl, hb2⟩
      rw [gK_is (k := K) (by omega)]
      have hbd := cmpS_bd n s (2 * gK K)
      have hge := cmpS_ge (n := n) (s := s) (t := 2 * gK K)
      have HB2 : Hid (Below (w.alloc (.cells #[.slice A na ca, .slice B nb cb, .int .i64 E, .bool r] 142)).heap.size (w.alloc (.cells #[.slice A na ca, .slice B nb cb, .int .i64 E, .bool r] 142)) w2) := bel_trans HB.out (bel_trans hb1 hb2)
      have HG := Lib.hid hge
      clear hge hb1 hb2
      generalize cmpS n s (2 * gK K) = c at *
      by_cases hc : 0 ≤ c
      · go_wp2_with fail
        go_roundw
        case rel => exact ⟨K, hi, rfl, rfl, by omega, k1.2, h2, HG.out.1 hc, HH, HB2⟩
        case measure => simp [intOf]; omega
      · go_wp2_with fail
        go_roundw
        case rel => exact ⟨lo, K - 1, rfl, rfl, h0, by omega, by omega, HL, (by intro _; rw [show K - 1 + 1 = K by omega]; have := HG.out; omega), HB2⟩
        case measure => simp [intOf]; omega
    · have : hi = lo := by omega
      subst this
      have fin : IsFloor n hi := ⟨h0, h2, HL.out, HH.out⟩
      go_wp2_with fail
      go_ret
      exact ⟨hi, fin, rfl, bel_trans (bel_alloc (Below.refl _ _) _) HB.out⟩
end Go.Proofs.YtkhddadhkkffnaaGreatDoor
namespace Go.Proofs.YtkhddadhkkffnaaGreatDoor
open Go.RowKit
set_option maxRecDepth 100000

theorem gK_of {u : Nat} {W : Int} (h0 : 0 ≤ W) (h1 : W ≤ 9007199254740992) (hu : 0 < u → 4503599627370496 ≤ W) : gK ((u : Int) * 4503599627370496 + W) = W * 2 ^ u := by
  unfold gK gZ
  by_cases a : W < 4503599627370496
  · have : u = 0 := by omega
    subst this
    rw [if_pos (by omega)]
    simp
    omega
  · rw [if_neg (by omega)]
    by_cases b : W < 9007199254740992
    · rw [show (((u : Int) * 4503599627370496 + W) / 4503599627370496 - 1).toNat = u by omega, show 4503599627370496 + ((u : Int) * 4503599627370496 + W) % 4503599627370496 = W by omega]
    · have : W = 9007199254740992 := by omega
      subst this
      rw [show (((u : Int) * 4503599627370496 + 9007199254740992) / 4503599627370496 - 1).toNat = u + 1 by omega, show 4503599627370496 + ((u : Int) * 4503599627370496 + 9007199254740992) % 4503599627370496 = 4503599627370496 by omega, Int.pow_succ, Int.mul_comm (2 ^ u) 2, ← Int.mul_assoc]
      rfl
/-- The key below a number, as if there were no greatest float. -/
def K0 (n : Int) : Int := (rU n : Int) * 4503599627370496 + rW n
theorem K0_nn {n : Int} (h : 0 ≤ n) : 0 ≤ K0 n := by have := (rW_bd h).1; unfold K0; omega
theorem n_parts {n : Int} : n = (2 * rW n + b2i (rH n)) * 2 ^ rU n + n % 2 ^ rU n := by
  have d := Int.ediv_mul_add_emod n (2 ^ rU n)
  have e : n / 2 ^ rU n = 2 * rW n + b2i (rH n) := by
    unfold rW rH b2i
    rw [(left_two (rU n) 1).1]
    simp only [Int.pow_one, decide_eq_true_eq]
    split <;> omega
  rw [e] at d
  omega
theorem K0_floor {n : Int} (h : 0 ≤ n) : 2 * gK (K0 n) ≤ n ∧ n < 2 * gK (K0 n + 1) := by
  obtain ⟨h0, h1, h2⟩ := rW_bd h
  have e1 := gK_of (u := rU n) h0 (by omega) h2
  have e2 := gK_of (u := rU n) (W := rW n + 1) (by omega) (by omega) (by intro h; have := h2 h; omega)
  unfold K0
  rw [Int.add_assoc, e1, e2]
  have p := n_parts (n := n)
  have hp := pow_pos' (rU n)
  have r0 := Int.emod_nonneg n (Int.ne_of_gt hp)
  have r1 := Int.emod_lt_of_pos n hp
  have b := b2i_bd (rH n)
  generalize (2 : Int) ^ rU n = z at *
  generalize n % z = r at *
  generalize b2i (rH n) = c at *
  generalize rW n = W at *
  rw [p]
  have k1 : 0 ≤ c * z := Int.mul_nonneg b.1 (Int.le_of_lt hp)
  have k2 : c * z ≤ 1 * z := Int.mul_le_mul_of_nonneg_right b.2 (Int.le_of_lt hp)
  rw [Int.add_mul, Int.add_mul, Int.mul_assoc]
  omega
theorem floor_key {n k : Int} (h : 0 ≤ n) (hk : IsFloor n k) : k = min (K0 n) 9218868437227405312 := by
  obtain ⟨k0, k1, k2, k3⟩ := hk
  obtain ⟨f1, f2⟩ := K0_floor h
  have hz := K0_nn h
  rcases Int.lt_trichotomy k (K0 n) with a | a | a
  · by_cases b : k ≤ 9218868437227405311
    · have := k3 b
      rcases Int.lt_or_eq_of_le (show k + 1 ≤ K0 n by omega) with c | c
      · have := gK_lt (by omega) c
        omega
      · rw [c] at this
        omega
    · omega
  · omega
  · rcases Int.lt_or_eq_of_le (show K0 n + 1 ≤ k by omega) with c | c
    · have := gK_lt (by omega) c
      omega
    · rw [c] at f2
      omega
theorem key_of (md : Int) (neg : Bool) (n : Int) (s : Bool) : rKey md neg n s = K0 n + b2i (rAway md neg n s) := rfl

/-- What the reference asks about a number below the greatest float. -/
theorem ask_exact {n : Int} {s : Bool} (h : 0 ≤ n) : (cmpS n s (2 * gK (K0 n)) == 0) = rX n s := by
  obtain ⟨h0, h1, h2⟩ := rW_bd h
  have e1 := gK_of (u := rU n) h0 (by omega) h2
  have p := n_parts (n := n)
  have hp := pow_pos' (rU n)
  have r0 := Int.emod_nonneg n (Int.ne_of_gt hp)
  unfold K0
  rw [e1]
  unfold rX rB cmpS
  generalize (2 : Int) ^ rU n = z at *
  generalize n % z = r at *
  generalize rW n = W at *
  have e3 : 2 * (W * z) = 2 * W * z := by rw [Int.mul_assoc]
  rw [e3]
  cases hH : rH n
  · rw [hH, show b2i false = 0 by rfl, Int.add_zero] at p
    by_cases hr : r = 0
    · subst hr
      rw [show n = 2 * W * z by omega]
      cases s <;> simp
    · rw [if_neg (by omega), if_neg (by omega)]
      simp [hr]
  · rw [hH, show b2i true = 1 by rfl, Int.add_mul] at p
    rw [if_neg (by omega), if_neg (by omega)]
    simp
theorem ask_under {n : Int} {s : Bool} (h : 0 ≤ n) : decide (cmpS n s 9007199254740992 < 0) = decide (rW n < 4503599627370496) := by
  have e : n < 9007199254740992 ↔ rW n < 4503599627370496 := by
    rw [rW_small h]
    constructor
    · intro h1
      exact blen_le2 (k := 52) (by omega) (by have : (2 : Int) ^ 52 = 4503599627370496 := by decide
                                              omega)
    · intro h1
      have := blen_lt (a := n / 2) (k := 52) (by omega) h1
      have e2 : (2 : Int) ^ 52 = 4503599627370496 := by decide
      omega
  unfold cmpS
  by_cases hn : n < 9007199254740992
  · rw [if_pos hn, decide_eq_true (e.1 hn)]
    rfl
  · rw [if_neg hn, decide_eq_false (fun h => hn (e.2 h))]
    split <;> rfl
theorem mid_is {n : Int} (h : 0 ≤ n) : (2 * gm (K0 n) + 1) * 2 ^ (gy (K0 n) - 1 + 1075).toNat = (2 * rW n + 1) * 2 ^ rU n := by
  obtain ⟨h0, h1, h2⟩ := rW_bd h
  have e1 : gm (K0 n) = rW n := by
    unfold gm K0
    split <;> omega
  have e2 : (gy (K0 n) - 1 + 1075).toNat = rU n := by
    unfold gy K0
    split <;> omega
  rw [e1, e2]
theorem ask_mid {n : Int} {s : Bool} : decide (0 < cmpS n s ((2 * rW n + 1) * 2 ^ rU n)) = (rH n && rB n s) ∧ (cmpS n s ((2 * rW n + 1) * 2 ^ rU n) == 0) = (rH n && !rB n s) := by
  have p := n_parts (n := n)
  have hp := pow_pos' (rU n)
  have r0 := Int.emod_nonneg n (Int.ne_of_gt hp)
  have r1 := Int.emod_lt_of_pos n hp
  unfold rB cmpS
  generalize (2 : Int) ^ rU n = z at *
  generalize n % z = r at *
  generalize rW n = W at *
  cases hH : rH n
  · rw [hH, show b2i false = 0 by rfl, Int.add_zero] at p
    rw [Int.add_mul, if_pos (by omega)]
    exact ⟨rfl, rfl⟩
  · rw [hH, show b2i true = 1 by rfl] at p
    by_cases hr : r = 0
    · subst hr
      rw [show n = (2 * W + 1) * z by omega]
      cases s <;> simp
    · rw [if_neg (by omega), if_neg (by omega)]
      simp [hr]
theorem K0_odd {n : Int} (h : 0 ≤ n) : (K0 n).tmod 2 = rW n % 2 := by
  rw [Int.tmod_eq_emod_of_nonneg (K0_nn h)]
  unfold K0
  omega
end Go.Proofs.YtkhddadhkkffnaaGreatDoor
namespace Go.Proofs.YtkhddadhkkffnaaGreatDoor
open Go.RowKit
set_option maxRecDepth 100000

/-- The cells of a number of the reference in its block. -/
structure At4 (w : World) (g : Nat) (A B : Option Addr) (na ca nb cb : Nat) (E : Int) (r : Bool) : Prop where
  c0 : w.cell? ⟨g, 0, none⟩ = some (.slice A na ca)
  c1 : w.cell? ⟨g, 1, none⟩ = some (.slice B nb cb)
  c2 : w.cell? ⟨g, 2, none⟩ = some (.int .i64 E)
  c3 : w.cell? ⟨g, 3, none⟩ = some (.bool r)
theorem At4.below {w w' : World} {g : Nat} {A B : Option Addr} {na ca nb cb : Nat} {E : Int} {r : Bool} (h : At4 w g A B na ca nb cb E r) (hb : Below w.heap.size w w') : At4 w' g A B na ca nb cb E r :=
  ⟨kp_c hb h.c0, kp_c hb h.c1, kp_c hb h.c2, kp_c hb h.c3⟩
theorem At4.new (w : World) (t : TypeId) (A B : Option Addr) (na ca nb cb : Nat) (E : Int) (r : Bool) : At4 (w.alloc (.cells #[.slice A na ca, .slice B nb cb, .int .i64 E, .bool r] t)) w.heap.size A B na ca nb cb E r := by
  constructor <;> simp [go_sem]

theorem away_up {n : Int} {s : Bool} : rAway 1 false n s = !rX n s := by simp [rAway]
theorem away_down {n : Int} {s : Bool} : rAway 2 false n s = false := by simp [rAway]
theorem away_near {md n : Int} {s : Bool} {neg : Bool} (h1 : ¬ md = 1) (h2 : ¬ md = 2) : rAway md neg n s = (rH n && (rB n s || decide (rW n % 2 = 1))) := by simp [rAway, h1, h2]
theorem fin_no {md n : Int} {s : Bool} (_hn : 0 ≤ n) (ht : K0 n ≤ 9218868437227405311) (hA : rAway md false n s = false) : rMag md false n s = K0 n ∧ rG md false n s = if rX n s = true then 0 else if rW n < 4503599627370496 then 3 else 1 := by
  have e := key_of md false n s
  rw [hA, show b2i false = 0 by rfl, Int.add_zero] at e
  unfold rMag rG
  rw [if_pos (by omega), if_pos (by omega)]
  exact ⟨e, rfl⟩
theorem fin_up {md n : Int} {s : Bool} (_hn : 0 ≤ n) (hA : rAway md false n s = true) (ht : K0 n < 9218868437227405311) : rMag md false n s = K0 n + 1 ∧ rG md false n s = if rX n s = true then 0 else if rW n < 4503599627370496 then 3 else 1 := by
  have e := key_of md false n s
  rw [hA, show b2i true = 1 by rfl] at e
  unfold rMag rG
  rw [if_pos (by omega), if_pos (by omega)]
  exact ⟨e, rfl⟩
theorem fin_over {md n : Int} {s : Bool} (hA : rAway md false n s = true) (ht : 9218868437227405311 ≤ K0 n) : rMag md false n s = rBey md false ∧ rG md false n s = 5 := by
  have e := key_of md false n s
  rw [hA, show b2i true = 1 by rfl] at e
  unfold rMag rG
  rw [if_neg (by omega), if_neg (by omega)]
  exact ⟨rfl, rfl⟩
theorem fin_beyond {md n : Int} {s : Bool} (ht : 9218868437227405311 < K0 n) : rMag md false n s = rBey md false ∧ rG md false n s = 5 := by
  have e := key_of md false n s
  have := b2i_bd (rAway md false n s)
  unfold rMag rG
  rw [if_neg (by omega), if_neg (by omega)]
  exact ⟨rfl, rfl⟩
def RetK (k f : Int) (w : World) (e : Ending) (w' : World) : Prop := e = .returned (.tuple #[.int .i64 k, .int .u8 f]) ∧ Below w.heap.size w w'

set_option maxHeartbeats 4000000 in
theorem hmag_any {w : World} {v : Value} {n : Int} {s : Bool} {L : Nat} (hx : XV w v n s L) (hL : L ≤ 65536) (md : Int) : Calls Tryz.prog 133 #[v, .int .u8 md] w (RetK (rMag md false n s) (rG md false n s) w) := by
  have hn := hx.nonneg
  have hx' := hx
  obtain ⟨ya, yb, a, b, E, r, rfl, h2, h3, h4⟩ := hx'
  obtain ⟨A, na, ca, rfl⟩ := h2.form
  obtain ⟨B, nb, cb, rfl⟩ := h3.form
  clear h2 h3 h4
  go_enter Tryz.func133, Tryz.ntmps133
  go_wp2_with fail
  refine (hfloor_any (hx.below (bel_alloc (Below.refl _ _) _)) hL).mono ?_
  rintro x w1 ⟨k, hk, rfl, hb1⟩
  have HKEY := Lib.hid (floor_key hn hk)
  have hk0 : 0 ≤ k ∧ k ≤ 9218868437227405312 := ⟨hk.1, hk.2.1⟩
  clear hk
  have a1 := (At4.new w 142 A B na ca nb cb E r).below hb1
  have B1 : Below w.heap.size w w1 := bel_trans (bel_alloc (Below.refl _ _) _) hb1
  clear hb1
  have ey := gy_bd hk0.1 hk0.2
  obtain ⟨d0, d1, d2, d3⟩ := a1
  go_wp2_with fail
  refine (hsplit_any k hk0.1 hk0.2 _).mono ?_
  rintro x w2 ⟨v1, n1, rfl, hb2⟩
  obtain ⟨A1, m1, l1, rfl⟩ := n1.form
  have a2 := At4.below ⟨d0, d1, d2, d3⟩ hb2
  have B2 := bel_trans B1 hb2
  clear d0 d1 d2 d3 B1 hb2
  obtain ⟨d0, d1, d2, d3⟩ := a2
  go_wp2_with fail
  refine (hcmp_any (hx.below B2) n1 hL (by decide) ⟨by omega, by omega⟩).mono ?_
  rintro x w3 ⟨rfl, hb3⟩
  rw [gK_is hk0.1]
  have a3 := At4.below ⟨d0, d1, d2, d3⟩ hb3
  have B3 := bel_trans B2 hb3
  have n3 := n1.below hb3
  clear d0 d1 d2 d3 B2 hb3 n1
  go_wp2_with fail
  refine (ofV (rdw_one w3 _ _) (m := 1) ⟨by decide, by decide⟩).mono ?_
  rintro x w4 ⟨v4, n4, rfl, hb4⟩
  obtain ⟨A4, m4, l4, rfl⟩ := n4.form
  have hb4' := bel_trans (bel_alloc (Below.refl w3.heap.size w3) _) hb4
  have a4 := a3.below hb4'
  have B4 := bel_trans B3 hb4'
  clear a3 B3 hb4 hb4' n3
  obtain ⟨d0, d1, d2, d3⟩ := a4
  generalize hc1 : cmpS n s (2 * gK k) = c1
  by_cases htop : K0 n ≤ 9218868437227405311
  · have hkK : k = K0 n := by have := HKEY.out; omega
    have htop' : k ≤ 9218868437227405311 := by omega
    clear HKEY
    have HKEY := Lib.hid hkK
    have HODD : Hid (k.tmod 2 = rW n % 2) := by show _ = _; rw [hkK]; exact K0_odd hn
    have HMID : Hid ((2 * gm k + 1) * 2 ^ (gy k - 1 + 1075).toNat = (2 * rW n + 1) * 2 ^ rU n) := by show _ = _; rw [hkK]; exact mid_is hn
    have hX := ask_exact (s := s) hn
    rw [← hkK, hc1] at hX
    have htopH := Lib.hid htop
    clear hkK hc1
    cases hXX : rX n s
    · rw [hXX] at hX
      have HX := Lib.hid hXX
      clear hXX
      go_wp2_with fail
      refine (hcmp_any (hx.below B4) n4 hL (by decide) ⟨by decide, by decide⟩).mono ?_
      rintro x w5 ⟨rfl, hb5⟩
      rw [show (1 : Int) * 2 ^ ((-1022 : Int) + 1075).toNat = 9007199254740992 by decide]
      have a5 := At4.below ⟨d0, d1, d2, d3⟩ hb5
      have B5 := bel_trans B4 hb5
      have n4 := n4.below hb5
      clear d0 d1 d2 d3 hb5
      obtain ⟨d0, d1, d2, d3⟩ := a5
      have hU := ask_under (s := s) hn
      have hbd2 := cmpS_bd n s 9007199254740992
      generalize cmpS n s 9007199254740992 = c2 at *
      by_cases hUN : rW n < 4503599627370496
      · rw [decide_eq_true hUN] at hU
        have HUN := Lib.hid hUN
        clear hUN
        by_cases hm1 : md = 1
        · subst hm1
          have HA : rAway 1 false n s = true := by rw [away_up, HX.out]; rfl
          by_cases hlast : k = 9218868437227405311
          · have G := Lib.hid (fin_over (md := 1) (n := n) HA (by rw [← HKEY.out, hlast]; decide))
            exfalso
            have := HUN.out
            have h9 := HKEY.out
            have h8 := (rW_bd hn).2.2
            unfold K0 at h9
            omega
          · have G := Lib.hid (fin_up (md := 1) hn HA (by have := HKEY.out; omega))
            rw [HX.out, if_neg (by decide), if_pos HUN.out, ← HKEY.out] at G
            have hlast' : k < 9218868437227405311 := by omega
            go_wp2_with fail
            go_ret2
            exact ⟨ret_two G.out.1.symm G.out.2.symm, B5⟩
        · by_cases hm2 : md = 2
          · subst hm2
            have HA : rAway 2 false n s = false := away_down
            have G := Lib.hid (fin_no (md := 2) hn htop HA)
            rw [HX.out, if_neg (by decide), if_pos HUN.out, ← HKEY.out] at G
            go_wp2_with fail
            go_ret2
            exact ⟨ret_two G.out.1.symm G.out.2.symm, B5⟩
          · have z1 : (md == 1) = false := by simp [hm1]
            have z2 : (md == 2) = false := by simp [hm2]
            have ey' := ey
            go_wp2_with fail
            refine (hsplit_any k hk0.1 hk0.2 _).mono ?_
            rintro x w6 ⟨v6, n6, rfl, hb6⟩
            obtain ⟨A6, m6, l6, rfl⟩ := n6.form
            have a6 := At4.below ⟨d0, d1, d2, d3⟩ hb6
            have B6 := bel_trans B5 hb6
            have n4 := n4.below hb6
            clear d0 d1 d2 d3 hb6
            obtain ⟨d0, d1, d2, d3⟩ := a6
            go_wp2_with fail
            refine (shlV n6 (N := 1) (by decide) (by decide) (by decide) 65 (by decide)).mono ?_
            rintro x w7 ⟨v7, n7, rfl, hb7⟩
            obtain ⟨A7, m7, l7, rfl⟩ := n7.form
            have a7 := At4.below ⟨d0, d1, d2, d3⟩ hb7
            have B7 := bel_trans B6 hb7
            have n4 := n4.below hb7
            clear d0 d1 d2 d3 hb7
            obtain ⟨d0, d1, d2, d3⟩ := a7
            go_wp2_with fail
            refine (raddV n7 n4 (by decide) (by decide)).mono ?_
            rintro x w8 ⟨v8, n8, rfl, hb8⟩
            obtain ⟨A8, m8, l8, rfl⟩ := n8.form
            have a8 := At4.below ⟨d0, d1, d2, d3⟩ hb8
            have B8 := bel_trans B7 hb8
            clear d0 d1 d2 d3 hb8
            obtain ⟨d0, d1, d2, d3⟩ := a8
            rw [show (2 : Int) ^ (1 : Int).toNat * gm k + 1 = 2 * gm k + 1 by rw [show (1 : Int).toNat = 1 by decide, Int.pow_one]] at n8
            go_wp2_with fail
            refine (hcmp_any (hx.below B8) n8 hL (by decide) ⟨by omega, by omega⟩).mono ?_
            rintro x w9 ⟨rfl, hb9⟩
            rw [HMID.out]
            have B9 := bel_trans B8 hb9
            have hM := ask_mid (n := n) (s := s)
            have hbd3 := cmpS_bd n s ((2 * rW n + 1) * 2 ^ rU n)
            generalize cmpS n s ((2 * rW n + 1) * 2 ^ rU n) = c3 at *
            clear hb9 HMID
            cases hH : rH n
            · rw [hH] at hM
              have hM1 : decide (0 < c3) = false := hM.1
              have hM2 : (c3 == 0) = false := hM.2
              have HA : rAway md false n s = false := by rw [away_near hm1 hm2, hH]; rfl
              clear hM
              have G := Lib.hid (fin_no (md := md) hn htop HA)
              rw [HX.out, if_neg (by decide), if_pos HUN.out, ← HKEY.out] at G
              go_wp2_with fail
              go_ret2
              exact ⟨ret_two G.out.1.symm G.out.2.symm, B9⟩
            · rw [hH] at hM
              cases hB : rB n s
              · rw [hB] at hM
                have hM1 : decide (0 < c3) = false := hM.1
                have hM2 : (c3 == 0) = true := hM.2
                clear hM
                by_cases hO : rW n % 2 = 1
                · have HA : rAway md false n s = true := by rw [away_near hm1 hm2, hH, hB, decide_eq_true hO]; rfl
                  have hodd : (k.tmod 2 == 1) = true := by rw [HODD.out, hO]; rfl
                  have hodd2 : (k % 2 == 1) = true := by rw [← Int.tmod_eq_emod_of_nonneg hk0.1]; exact hodd
                  clear hO HODD
                  by_cases hlast : k = 9218868437227405311
                  · have G := Lib.hid (fin_over (md := md) (n := n) HA (by rw [← HKEY.out, hlast]; decide))
                    exfalso
                    have := HUN.out
                    have h9 := HKEY.out
                    have h8 := (rW_bd hn).2.2
                    unfold K0 at h9
                    omega
                  · have G := Lib.hid (fin_up (md := md) hn HA (by have := HKEY.out; omega))
                    rw [HX.out, if_neg (by decide), if_pos HUN.out, ← HKEY.out] at G
                    have hlast' : k < 9218868437227405311 := by omega
                    go_wp2_with fail
                    go_ret2
                    exact ⟨ret_two G.out.1.symm G.out.2.symm, B9⟩
                · have HA : rAway md false n s = false := by rw [away_near hm1 hm2, hH, hB, decide_eq_false hO]; rfl
                  have hodd : (k.tmod 2 == 1) = false := by rw [HODD.out]; simp; omega
                  have hodd2 : (k % 2 == 1) = false := by rw [← Int.tmod_eq_emod_of_nonneg hk0.1]; exact hodd
                  clear hO HODD
                  have G := Lib.hid (fin_no (md := md) hn htop HA)
                  rw [HX.out, if_neg (by decide), if_pos HUN.out, ← HKEY.out] at G
                  go_wp2_with fail
                  go_ret2
                  exact ⟨ret_two G.out.1.symm G.out.2.symm, B9⟩
              · rw [hB] at hM
                have hM1 : decide (0 < c3) = true := hM.1
                have hM2 : (c3 == 0) = false := hM.2
                have HA : rAway md false n s = true := by rw [away_near hm1 hm2, hH, hB]; rfl
                clear hM
                by_cases hlast : k = 9218868437227405311
                · have G := Lib.hid (fin_over (md := md) (n := n) HA (by rw [← HKEY.out, hlast]; decide))
                  exfalso
                  have := HUN.out
                  have h9 := HKEY.out
                  have h8 := (rW_bd hn).2.2
                  unfold K0 at h9
                  omega
                · have G := Lib.hid (fin_up (md := md) hn HA (by have := HKEY.out; omega))
                  rw [HX.out, if_neg (by decide), if_pos HUN.out, ← HKEY.out] at G
                  have hlast' : k < 9218868437227405311 := by omega
                  go_wp2_with fail
                  go_ret2
                  exact ⟨ret_two G.out.1.symm G.out.2.symm, B9⟩
      · rw [decide_eq_false hUN] at hU
        have HUN := Lib.hid hUN
        clear hUN
        by_cases hm1 : md = 1
        · subst hm1
          have HA : rAway 1 false n s = true := by rw [away_up, HX.out]; rfl
          by_cases hlast : k = 9218868437227405311
          · have G := Lib.hid (fin_over (md := 1) (n := n) HA (by rw [← HKEY.out, hlast]; decide))
            subst hlast
            rw [show rBey 1 false = 9218868437227405312 by decide] at G
            go_wp2_with fail
            go_ret2
            exact ⟨ret_two G.out.1.symm G.out.2.symm, B5⟩
          · have G := Lib.hid (fin_up (md := 1) hn HA (by have := HKEY.out; omega))
            rw [HX.out, if_neg (by decide), if_neg (show ¬ rW n < 4503599627370496 by have := HUN.out; omega), ← HKEY.out] at G
            have hlast' : k < 9218868437227405311 := by omega
            go_wp2_with fail
            go_ret2
            exact ⟨ret_two G.out.1.symm G.out.2.symm, B5⟩
        · by_cases hm2 : md = 2
          · subst hm2
            have HA : rAway 2 false n s = false := away_down
            have G := Lib.hid (fin_no (md := 2) hn htop HA)
            rw [HX.out, if_neg (by decide), if_neg (show ¬ rW n < 4503599627370496 by have := HUN.out; omega), ← HKEY.out] at G
            go_wp2_with fail
            go_ret2
            exact ⟨ret_two G.out.1.symm G.out.2.symm, B5⟩
          · have z1 : (md == 1) = false := by simp [hm1]
            have z2 : (md == 2) = false := by simp [hm2]
            have ey' := ey
            go_wp2_with fail
            refine (hsplit_any k hk0.1 hk0.2 _).mono ?_
            rintro x w6 ⟨v6, n6, rfl, hb6⟩
            obtain ⟨A6, m6, l6, rfl⟩ := n6.form
            have a6 := At4.below ⟨d0, d1, d2, d3⟩ hb6
            have B6 := bel_trans B5 hb6
            have n4 := n4.below hb6
            clear d0 d1 d2 d3 hb6
            obtain ⟨d0, d1, d2, d3⟩ := a6
            go_wp2_with fail
            refine (shlV n6 (N := 1) (by decide) (by decide) (by decide) 65 (by decide)).mono ?_
            rintro x w7 ⟨v7, n7, rfl, hb7⟩
            obtain ⟨A7, m7, l7, rfl⟩ := n7.form
            have a7 := At4.below ⟨d0, d1, d2, d3⟩ hb7
            have B7 := bel_trans B6 hb7
            have n4 := n4.below hb7
            clear d0 d1 d2 d3 hb7
            obtain ⟨d0, d1, d2, d3⟩ := a7
            go_wp2_with fail
            refine (raddV n7 n4 (by decide) (by decide)).mono ?_
            rintro x w8 ⟨v8, n8, rfl, hb8⟩
            obtain ⟨A8, m8, l8, rfl⟩ := n8.form
            have a8 := At4.below ⟨d0, d1, d2, d3⟩ hb8
            have B8 := bel_trans B7 hb8
            clear d0 d1 d2 d3 hb8
            obtain ⟨d0, d1, d2, d3⟩ := a8
            rw [show (2 : Int) ^ (1 : Int).toNat * gm k + 1 = 2 * gm k + 1 by rw [show (1 : Int).toNat = 1 by decide, Int.pow_one]] at n8
            go_wp2_with fail
            refine (hcmp_any (hx.below B8) n8 hL (by decide) ⟨by omega, by omega⟩).mono ?_
            rintro x w9 ⟨rfl, hb9⟩
            rw [HMID.out]
            have B9 := bel_trans B8 hb9
            have hM := ask_mid (n := n) (s := s)
            have hbd3 := cmpS_bd n s ((2 * rW n + 1) * 2 ^ rU n)
            generalize cmpS n s ((2 * rW n + 1) * 2 ^ rU n) = c3 at *
            clear hb9 HMID
            cases hH : rH n
            · rw [hH] at hM
              have hM1 : decide (0 < c3) = false := hM.1
              have hM2 : (c3 == 0) = false := hM.2
              have HA : rAway md false n s = false := by rw [away_near hm1 hm2, hH]; rfl
              clear hM
              have G := Lib.hid (fin_no (md := md) hn htop HA)
              rw [HX.out, if_neg (by decide), if_neg (show ¬ rW n < 4503599627370496 by have := HUN.out; omega), ← HKEY.out] at G
              go_wp2_with fail
              go_ret2
              exact ⟨ret_two G.out.1.symm G.out.2.symm, B9⟩
            · rw [hH] at hM
              cases hB : rB n s
              · rw [hB] at hM
                have hM1 : decide (0 < c3) = false := hM.1
                have hM2 : (c3 == 0) = true := hM.2
                clear hM
                by_cases hO : rW n % 2 = 1
                · have HA : rAway md false n s = true := by rw [away_near hm1 hm2, hH, hB, decide_eq_true hO]; rfl
                  have hodd : (k.tmod 2 == 1) = true := by rw [HODD.out, hO]; rfl
                  have hodd2 : (k % 2 == 1) = true := by rw [← Int.tmod_eq_emod_of_nonneg hk0.1]; exact hodd
                  clear hO HODD
                  by_cases hlast : k = 9218868437227405311
                  · have G := Lib.hid (fin_over (md := md) (n := n) HA (by rw [← HKEY.out, hlast]; decide))
                    subst hlast
                    rw [show rBey md false = 9218868437227405312 by unfold rBey; rw [if_neg (by intro h; rcases h with h | h; exact absurd h.1 (by decide); exact hm2 h.2)]] at G
                    go_wp2_with fail
                    go_ret2
                    exact ⟨ret_two G.out.1.symm G.out.2.symm, B9⟩
                  · have G := Lib.hid (fin_up (md := md) hn HA (by have := HKEY.out; omega))
                    rw [HX.out, if_neg (by decide), if_neg (show ¬ rW n < 4503599627370496 by have := HUN.out; omega), ← HKEY.out] at G
                    have hlast' : k < 9218868437227405311 := by omega
                    go_wp2_with fail
                    go_ret2
                    exact ⟨ret_two G.out.1.symm G.out.2.symm, B9⟩
                · have HA : rAway md false n s = false := by rw [away_near hm1 hm2, hH, hB, decide_eq_false hO]; rfl
                  have hodd : (k.tmod 2 == 1) = false := by rw [HODD.out]; simp; omega
                  have hodd2 : (k % 2 == 1) = false := by rw [← Int.tmod_eq_emod_of_nonneg hk0.1]; exact hodd
                  clear hO HODD
                  have G := Lib.hid (fin_no (md := md) hn htop HA)
                  rw [HX.out, if_neg (by decide), if_neg (show ¬ rW n < 4503599627370496 by have := HUN.out; omega), ← HKEY.out] at G
                  go_wp2_with fail
                  go_ret2
                  exact ⟨ret_two G.out.1.symm G.out.2.symm, B9⟩
              · rw [hB] at hM
                have hM1 : decide (0 < c3) = true := hM.1
                have hM2 : (c3 == 0) = false := hM.2
                have HA : rAway md false n s = true := by rw [away_near hm1 hm2, hH, hB]; rfl
                clear hM
                by_cases hlast : k = 9218868437227405311
                · have G := Lib.hid (fin_over (md := md) (n := n) HA (by rw [← HKEY.out, hlast]; decide))
                  subst hlast
                  rw [show rBey md false = 9218868437227405312 by unfold rBey; rw [if_neg (by intro h; rcases h with h | h; exact absurd h.1 (by decide); exact hm2 h.2)]] at G
                  go_wp2_with fail
                  go_ret2
                  exact ⟨ret_two G.out.1.symm G.out.2.symm, B9⟩
                · have G := Lib.hid (fin_up (md := md) hn HA (by have := HKEY.out; omega))
                  rw [HX.out, if_neg (by decide), if_neg (show ¬ rW n < 4503599627370496 by have := HUN.out; omega), ← HKEY.out] at G
                  have hlast' : k < 9218868437227405311 := by omega
                  go_wp2_with fail
                  go_ret2
                  exact ⟨ret_two G.out.1.symm G.out.2.symm, B9⟩
    · rw [hXX] at hX
      have HX := Lib.hid hXX
      clear hXX
      by_cases hm1 : md = 1
      · subst hm1
        have HA : rAway 1 false n s = false := by rw [away_up, HX.out]; rfl
        have G := Lib.hid (fin_no (md := 1) hn htop HA)
        rw [HX.out, if_pos rfl, ← HKEY.out] at G
        go_wp2_with fail
        go_ret2
        exact ⟨ret_two G.out.1.symm G.out.2.symm, B4⟩
      · by_cases hm2 : md = 2
        · subst hm2
          have HA : rAway 2 false n s = false := away_down
          have G := Lib.hid (fin_no (md := 2) hn htop HA)
          rw [HX.out, if_pos rfl, ← HKEY.out] at G
          go_wp2_with fail
          go_ret2
          exact ⟨ret_two G.out.1.symm G.out.2.symm, B4⟩
        · have z1 : (md == 1) = false := by simp [hm1]
          have z2 : (md == 2) = false := by simp [hm2]
          have ey' := ey
          go_wp2_with fail
          refine (hsplit_any k hk0.1 hk0.2 _).mono ?_
          rintro x w6 ⟨v6, n6, rfl, hb6⟩
          obtain ⟨A6, m6, l6, rfl⟩ := n6.form
          have a6 := At4.below ⟨d0, d1, d2, d3⟩ hb6
          have B6 := bel_trans B4 hb6
          have n4 := n4.below hb6
          clear d0 d1 d2 d3 hb6
          obtain ⟨d0, d1, d2, d3⟩ := a6
          go_wp2_with fail
          refine (shlV n6 (N := 1) (by decide) (by decide) (by decide) 65 (by decide)).mono ?_
          rintro x w7 ⟨v7, n7, rfl, hb7⟩
          obtain ⟨A7, m7, l7, rfl⟩ := n7.form
          have a7 := At4.below ⟨d0, d1, d2, d3⟩ hb7
          have B7 := bel_trans B6 hb7
          have n4 := n4.below hb7
          clear d0 d1 d2 d3 hb7
          obtain ⟨d0, d1, d2, d3⟩ := a7
          go_wp2_with fail
          refine (raddV n7 n4 (by decide) (by decide)).mono ?_
          rintro x w8 ⟨v8, n8, rfl, hb8⟩
          obtain ⟨A8, m8, l8, rfl⟩ := n8.form
          have a8 := At4.below ⟨d0, d1, d2, d3⟩ hb8
          have B8 := bel_trans B7 hb8
          clear d0 d1 d2 d3 hb8
          obtain ⟨d0, d1, d2, d3⟩ := a8
          rw [show (2 : Int) ^ (1 : Int).toNat * gm k + 1 = 2 * gm k + 1 by rw [show (1 : Int).toNat = 1 by decide, Int.pow_one]] at n8
          go_wp2_with fail
          refine (hcmp_any (hx.below B8) n8 hL (by decide) ⟨by omega, by omega⟩).mono ?_
          rintro x w9 ⟨rfl, hb9⟩
          rw [HMID.out]
          have B9 := bel_trans B8 hb9
          have hM := ask_mid (n := n) (s := s)
          have hbd3 := cmpS_bd n s ((2 * rW n + 1) * 2 ^ rU n)
          generalize cmpS n s ((2 * rW n + 1) * 2 ^ rU n) = c3 at *
          clear hb9 HMID
          cases hH : rH n
          · rw [hH] at hM
            have hM1 : decide (0 < c3) = false := hM.1
            have hM2 : (c3 == 0) = false := hM.2
            have HA : rAway md false n s = false := by rw [away_near hm1 hm2, hH]; rfl
            clear hM
            have G := Lib.hid (fin_no (md := md) hn htop HA)
            rw [HX.out, if_pos rfl, ← HKEY.out] at G
            go_wp2_with fail
            go_ret2
            exact ⟨ret_two G.out.1.symm G.out.2.symm, B9⟩
          · rw [hH] at hM
            exfalso
            have h9 := HX.out
            unfold rX at h9
            rw [hH] at h9
            simp at h9
  · have hkK : k = 9218868437227405312 := by have := HKEY.out; omega
    have G := Lib.hid (fin_beyond (md := md) (s := s) (n := n) (by omega))
    have hbig : ¬ rW n < 4503599627370496 := by have h8 := (rW_bd hn).2.2; have h7 := (rW_bd hn).2.1; unfold K0 at htop; omega
    have hU := ask_under (s := s) hn
    rw [decide_eq_false hbig] at hU
    clear HKEY htop hbig hc1
    subst hkK
    by_cases hX : c1 = 0
    · subst hX
      by_cases hm1 : md = 1
      · subst hm1
        rw [show rBey 1 false = 9218868437227405312 by decide] at G
        go_wp2_with fail
        go_ret2
        exact ⟨ret_two G.out.1.symm G.out.2.symm, B4⟩
      · by_cases hm2 : md = 2
        · subst hm2
          rw [show rBey 2 false = 9218868437227405311 by decide] at G
          go_wp2_with fail
          go_ret2
          exact ⟨ret_two G.out.1.symm G.out.2.symm, B4⟩
        · have z1 : (md == 1) = false := by simp [hm1]
          have z2 : (md == 2) = false := by simp [hm2]
          rw [show rBey md false = 9218868437227405312 by unfold rBey; rw [if_neg (by intro h; rcases h with h | h; exact absurd h.1 (by decide); exact hm2 h.2)]] at G
          go_wp2_with fail
          refine (hsplit_any 9218868437227405312 (by decide) (by decide) _).mono ?_
          rintro x w6 ⟨v6, n6, rfl, hb6⟩
          obtain ⟨A6, m6, l6, rfl⟩ := n6.form
          have a6 := At4.below ⟨d0, d1, d2, d3⟩ hb6
          have B6 := bel_trans B4 hb6
          have n4 := n4.below hb6
          clear d0 d1 d2 d3 hb6
          obtain ⟨d0, d1, d2, d3⟩ := a6
          go_wp2_with fail
          refine (hsplit_any 9218868437227405311 (by decide) (by decide) _).mono ?_
          rintro x w7 ⟨v7, n7, rfl, hb7⟩
          obtain ⟨A7, m7, l7, rfl⟩ := n7.form
          have a7 := At4.below ⟨d0, d1, d2, d3⟩ hb7
          have B7 := bel_trans B6 hb7
          have n4 := n4.below hb7
          clear d0 d1 d2 d3 hb7
          obtain ⟨d0, d1, d2, d3⟩ := a7
          rw [show gy 9218868437227405311 = 971 by decide]
          go_wp2_with fail
          refine (raddV n7 n4 (by decide) (by decide)).mono ?_
          rintro x w8 ⟨v8, n8, rfl, hb8⟩
          obtain ⟨A8, m8, l8, rfl⟩ := n8.form
          have a8 := At4.below ⟨d0, d1, d2, d3⟩ hb8
          have B8 := bel_trans B7 hb8
          have n4 := n4.below hb8
          clear d0 d1 d2 d3 hb8
          obtain ⟨d0, d1, d2, d3⟩ := a8
          go_wp2_with fail
          refine (shlV n8 (N := 1) (by decide) (by decide) (by decide) 200 (by decide)).mono ?_
          rintro x w9 ⟨v9, n9, rfl, hb9⟩
          obtain ⟨A9, m9, l9, rfl⟩ := n9.form
          have a9 := At4.below ⟨d0, d1, d2, d3⟩ hb9
          have B9 := bel_trans B8 hb9
          have n4 := n4.below hb9
          clear d0 d1 d2 d3 hb9
          obtain ⟨d0, d1, d2, d3⟩ := a9
          go_wp2_with fail
          refine (raddV n9 n4 (by decide) (by decide)).mono ?_
          rintro x w10 ⟨v10, n10, rfl, hb10⟩
          obtain ⟨A10, m10, l10, rfl⟩ := n10.form
          have a10 := At4.below ⟨d0, d1, d2, d3⟩ hb10
          have B10 := bel_trans B9 hb10
          clear d0 d1 d2 d3 hb10
          obtain ⟨d0, d1, d2, d3⟩ := a10
          go_wp2_with fail
          refine (hcmp_any (hx.below B10) n10 hL (by decide) ⟨by decide, by decide⟩).mono ?_
          rintro x w11 ⟨rfl, hb11⟩
          have B11 := bel_trans B10 hb11
          generalize hc3 : cmpS n s _ = c3
          clear hc3 hb11
          by_cases hM1 : 0 < c3
          · have hM2 : decide (0 < c3) = true := decide_eq_true hM1
            go_wp2_with fail
            go_ret2
            exact ⟨ret_two G.out.1.symm G.out.2.symm, B11⟩
          · have hM2 : decide (0 < c3) = false := decide_eq_false hM1
            by_cases hM3 : c3 = 0
            · subst hM3
              go_wp2_with fail
              go_ret2
              exact ⟨ret_two G.out.1.symm G.out.2.symm, B11⟩
            · have hM4 : (c3 == 0) = false := by simp [hM3]
              go_wp2_with fail
              go_ret2
              exact ⟨ret_two G.out.1.symm G.out.2.symm, B11⟩
    · have hX' : (c1 == 0) = false := by simp [hX]
      go_wp2_with fail
      refine (hcmp_any (hx.below B4) n4 hL (by decide) ⟨by decide, by decide⟩).mono ?_
      rintro x w5 ⟨rfl, hb5⟩
      rw [show (1 : Int) * 2 ^ ((-1022 : Int) + 1075).toNat = 9007199254740992 by decide]
      have a5 := At4.below ⟨d0, d1, d2, d3⟩ hb5
      have B5 := bel_trans B4 hb5
      have n4 := n4.below hb5
      clear d0 d1 d2 d3 hb5
      obtain ⟨d0, d1, d2, d3⟩ := a5
      have hbd2 := cmpS_bd n s 9007199254740992
      generalize cmpS n s 9007199254740992 = c2 at *
      by_cases hm1 : md = 1
      · subst hm1
        rw [show rBey 1 false = 9218868437227405312 by decide] at G
        go_wp2_with fail
        go_ret2
        exact ⟨ret_two G.out.1.symm G.out.2.symm, B5⟩
      · by_cases hm2 : md = 2
        · subst hm2
          rw [show rBey 2 false = 9218868437227405311 by decide] at G
          go_wp2_with fail
          go_ret2
          exact ⟨ret_two G.out.1.symm G.out.2.symm, B5⟩
        · have z1 : (md == 1) = false := by simp [hm1]
          have z2 : (md == 2) = false := by simp [hm2]
          rw [show rBey md false = 9218868437227405312 by unfold rBey; rw [if_neg (by intro h; rcases h with h | h; exact absurd h.1 (by decide); exact hm2 h.2)]] at G
          go_wp2_with fail
          refine (hsplit_any 9218868437227405312 (by decide) (by decide) _).mono ?_
          rintro x w6 ⟨v6, n6, rfl, hb6⟩
          obtain ⟨A6, m6, l6, rfl⟩ := n6.form
          have a6 := At4.below ⟨d0, d1, d2, d3⟩ hb6
          have B6 := bel_trans B5 hb6
          have n4 := n4.below hb6
          clear d0 d1 d2 d3 hb6
          obtain ⟨d0, d1, d2, d3⟩ := a6
          go_wp2_with fail
          refine (hsplit_any 9218868437227405311 (by decide) (by decide) _).mono ?_
          rintro x w7 ⟨v7, n7, rfl, hb7⟩
          obtain ⟨A7, m7, l7, rfl⟩ := n7.form
          have a7 := At4.below ⟨d0, d1, d2, d3⟩ hb7
          have B7 := bel_trans B6 hb7
          have n4 := n4.below hb7
          clear d0 d1 d2 d3 hb7
          obtain ⟨d0, d1, d2, d3⟩ := a7
          rw [show gy 9218868437227405311 = 971 by decide]
          go_wp2_with fail
          refine (raddV n7 n4 (by decide) (by decide)).mono ?_
          rintro x w8 ⟨v8, n8, rfl, hb8⟩
          obtain ⟨A8, m8, l8, rfl⟩ := n8.form
          have a8 := At4.below ⟨d0, d1, d2, d3⟩ hb8
          have B8 := bel_trans B7 hb8
          have n4 := n4.below hb8
          clear d0 d1 d2 d3 hb8
          obtain ⟨d0, d1, d2, d3⟩ := a8
          go_wp2_with fail
          refine (shlV n8 (N := 1) (by decide) (by decide) (by decide) 200 (by decide)).mono ?_
          rintro x w9 ⟨v9, n9, rfl, hb9⟩
          obtain ⟨A9, m9, l9, rfl⟩ := n9.form
          have a9 := At4.below ⟨d0, d1, d2, d3⟩ hb9
          have B9 := bel_trans B8 hb9
          have n4 := n4.below hb9
          clear d0 d1 d2 d3 hb9
          obtain ⟨d0, d1, d2, d3⟩ := a9
          go_wp2_with fail
          refine (raddV n9 n4 (by decide) (by decide)).mono ?_
          rintro x w10 ⟨v10, n10, rfl, hb10⟩
          obtain ⟨A10, m10, l10, rfl⟩ := n10.form
          have a10 := At4.below ⟨d0, d1, d2, d3⟩ hb10
          have B10 := bel_trans B9 hb10
          clear d0 d1 d2 d3 hb10
          obtain ⟨d0, d1, d2, d3⟩ := a10
          go_wp2_with fail
          refine (hcmp_any (hx.below B10) n10 hL (by decide) ⟨by decide, by decide⟩).mono ?_
          rintro x w11 ⟨rfl, hb11⟩
          have B11 := bel_trans B10 hb11
          generalize hc3 : cmpS n s _ = c3
          clear hc3 hb11
          by_cases hM1 : 0 < c3
          · have hM2 : decide (0 < c3) = true := decide_eq_true hM1
            go_wp2_with fail
            go_ret2
            exact ⟨ret_two G.out.1.symm G.out.2.symm, B11⟩
          · have hM2 : decide (0 < c3) = false := decide_eq_false hM1
            by_cases hM3 : c3 = 0
            · subst hM3
              go_wp2_with fail
              go_ret2
              exact ⟨ret_two G.out.1.symm G.out.2.symm, B11⟩
            · have hM4 : (c3 == 0) = false := by simp [hM3]
              go_wp2_with fail
              go_ret2
              exact ⟨ret_two G.out.1.symm G.out.2.symm, B11⟩
end Go.Proofs.YtkhddadhkkffnaaGreatDoor
namespace Go.Proofs.YtkhddadhkkffnaaGreatDoor
open Go.RowKit
set_option maxRecDepth 100000

theorem away_turn1 (n : Int) (s : Bool) : rAway 2 false n s = rAway 1 true n s := by simp [rAway]
theorem away_turn2 (n : Int) (s : Bool) : rAway 1 false n s = rAway 2 true n s := by simp [rAway]
theorem away_neg {md n : Int} {s : Bool} (h1 : ¬ md = 1) (h2 : ¬ md = 2) : rAway md false n s = rAway md true n s := by simp [rAway, h1, h2]
theorem bey_turn1 : rBey 2 false = rBey 1 true := by decide
theorem bey_turn2 : rBey 1 false = rBey 2 true := by decide
theorem bey_neg {md : Int} (h1 : ¬ md = 1) (h2 : ¬ md = 2) : rBey md false = rBey md true := by simp [rBey, h1, h2]
theorem turn {md md' n : Int} {s : Bool} (h1 : rAway md' false n s = rAway md true n s) (h2 : rBey md' false = rBey md true) : rMag md' false n s = rMag md true n s ∧ rG md' false n s = rG md true n s := by
  have hk : rKey md' false n s = rKey md true n s := by unfold rKey; rw [h1]
  unfold rMag rG
  rw [hk, h2]
  exact ⟨rfl, rfl⟩
theorem of_pos {k : Int} (h : 0 ≤ k) : fOf k false = k + sg false := by
  unfold fOf sg
  rw [if_neg (by intro h2; rcases h2 with h2 | h2; omega; exact absurd h2.2 (by decide))]
  simp
theorem of_min {k : Int} (h : 0 ≤ k) : fOf (-k) true = k + sg true := by
  unfold fOf sg
  rw [if_pos (by rcases Int.lt_or_eq_of_le h with h2 | h2; exact .inl (by omega); exact .inr ⟨by omega, rfl⟩)]
  simp

set_option maxHeartbeats 4000000 in
theorem hsigned_any {w : World} {v : Value} {n : Int} {s : Bool} {L : Nat} (hx : XV w v n s L) (hL : L ≤ 65536) (neg : Bool) (md : Int) : Calls Tryz.prog 96 #[.bool neg, v, .int .u8 md] w (RetF (rF md neg n s) (rG md neg n s) w) := by
  have hn := hx.nonneg
  have hx' := hx
  obtain ⟨ya, yb, a, b, E, r, rfl, h2, h3, h4⟩ := hx'
  obtain ⟨A, na, ca, rfl⟩ := h2.form
  obtain ⟨B, nb, cb, rfl⟩ := h3.form
  clear h2 h3 h4
  cases neg
  · have bd := rMag_bd (md := md) (neg := false) (s := s) hn
    have e1 := Lib.hid (of_pos bd.1)
    have MC := Lib.hid (fun W (h : XV W (.agg #[.slice A na ca, .slice B nb cb, .int .i64 E, .bool r]) n s L) => hmag_any h hL md)
    go_enter Tryz.func96, Tryz.ntmps96
    go_wp2_with fail
    refine (MC.out _ (hx.below (bel_alloc (Below.refl _ _) _))).mono ?_
    rintro x w1 ⟨rfl, hb1⟩
    go_wp2_with fail
    refine (gof_any (rMag md false n s) false (by omega) (by omega) _).mono ?_
    rintro x w2 ⟨rfl, rfl⟩
    go_wp2_with fail
    go_ret2
    exact ⟨ret_two e1.out rfl, bel_trans (bel_alloc (Below.refl _ _) _) hb1⟩
  · by_cases hm1 : md = 1
    · subst hm1
      obtain ⟨t1, t2⟩ := turn (away_turn1 n s) bey_turn1
      have MC := fun W (h : XV W (.agg #[.slice A na ca, .slice B nb cb, .int .i64 E, .bool r]) n s L) => hmag_any h hL 2
      rw [t1, t2] at MC
      have MC' := Lib.hid MC
      clear MC t1 t2
      have bd := rMag_bd (md := 1) (neg := true) (s := s) hn
      have e1 := Lib.hid (of_min bd.1)
      go_enter Tryz.func96, Tryz.ntmps96
      go_wp2_with fail
      refine (MC'.out _ (hx.below (bel_alloc (Below.refl _ _) _))).mono ?_
      rintro x w1 ⟨rfl, hb1⟩
      go_wp2_with fail
      refine (gof_any (-rMag 1 true n s) true (by omega) (by omega) _).mono ?_
      rintro x w2 ⟨rfl, rfl⟩
      go_wp2_with fail
      go_ret2
      exact ⟨ret_two e1.out rfl, bel_trans (bel_alloc (Below.refl _ _) _) hb1⟩
    · by_cases hm2 : md = 2
      · subst hm2
        obtain ⟨t1, t2⟩ := turn (away_turn2 n s) bey_turn2
        have MC := fun W (h : XV W (.agg #[.slice A na ca, .slice B nb cb, .int .i64 E, .bool r]) n s L) => hmag_any h hL 1
        rw [t1, t2] at MC
        have MC' := Lib.hid MC
        clear MC t1 t2
        have bd := rMag_bd (md := 2) (neg := true) (s := s) hn
        have e1 := Lib.hid (of_min bd.1)
        go_enter Tryz.func96, Tryz.ntmps96
        go_wp2_with fail
        refine (MC'.out _ (hx.below (bel_alloc (Below.refl _ _) _))).mono ?_
        rintro x w1 ⟨rfl, hb1⟩
        go_wp2_with fail
        refine (gof_any (-rMag 2 true n s) true (by omega) (by omega) _).mono ?_
        rintro x w2 ⟨rfl, rfl⟩
        go_wp2_with fail
        go_ret2
        exact ⟨ret_two e1.out rfl, bel_trans (bel_alloc (Below.refl _ _) _) hb1⟩
      · obtain ⟨t1, t2⟩ := turn (away_neg (n := n) (s := s) hm1 hm2) (bey_neg hm1 hm2)
        have MC := fun W (h : XV W (.agg #[.slice A na ca, .slice B nb cb, .int .i64 E, .bool r]) n s L) => hmag_any h hL md
        rw [t1, t2] at MC
        have MC' := Lib.hid MC
        clear MC t1 t2
        have bd := rMag_bd (md := md) (neg := true) (s := s) hn
        have e1 := Lib.hid (of_min bd.1)
        have z1 : (md == 1) = false := by simp [hm1]
        have z2 : (md == 2) = false := by simp [hm2]
        go_enter Tryz.func96, Tryz.ntmps96
        go_wp2_with fail
        refine (MC'.out _ (hx.below (bel_alloc (Below.refl _ _) _))).mono ?_
        rintro x w1 ⟨rfl, hb1⟩
        go_wp2_with fail
        refine (gof_any (-rMag md true n s) true (by omega) (by omega) _).mono ?_
        rintro x w2 ⟨rfl, rfl⟩
        go_wp2_with fail
        go_ret2
        exact ⟨ret_two e1.out rfl, bel_trans (bel_alloc (Below.refl _ _) _) hb1⟩

/-- A fraction of the reference. -/
theorem hN_frac {p q : Int} : hN p q 0 = nX p q ∧ hS p q 0 false = sX p q := by
  have h1 : eP 0 = 1075 := by decide
  have h2 : eQ 0 = 0 := by decide
  unfold hN hS nX sX q2
  rw [h1, h2, Int.pow_zero, Int.mul_one, Bool.or_false]
  exact ⟨rfl, rfl⟩

set_option maxHeartbeats 4000000 in
theorem hexact_any {w : World} {x y z : Value} {L : Nat} {r : Rat} (h : QC w x y z L r) (hL : L ≤ 65536) (md : Int) : Calls Tryz.prog 68 #[.agg #[x, y, z], .int .u8 md] w (RetF (dF md r) (dG md r) w) := by
  have hq := h
  obtain ⟨rfl, hy, hz⟩ := h
  obtain ⟨A, m, c, rfl⟩ := hy.v.form
  obtain ⟨B, n, d, rfl⟩ := hz.v.form
  have SG := Lib.hid (fun W (h : QC W (.bool (rs r)) (.slice A m c) (.slice B n d) L r) => fsign_any h (by omega))
  by_cases h0 : r = 0
  · have s0 : sgn r = 0 := sgn_eq.2 h0
    have e1 : dF md r = 0 := by unfold dF; rw [if_pos h0]
    have e2 : dG md r = 0 := by unfold dG; rw [if_pos h0]
    rw [e1, e2]
    have S0 := Lib.hid s0
    clear h0 s0 e1 e2
    go_enter Tryz.func68, Tryz.ntmps68
    go_wp2_with fail
    refine (SG.out _ (hq.below (bel_alloc (Below.refl _ _) _))).mono ?_
    rintro x w1 ⟨rfl, hb1⟩
    rw [S0.out]
    go_wp2_with fail
    go_ret2
    exact ⟨rfl, bel_trans (bel_alloc (Below.refl _ _) _) hb1⟩
  · have s0 : (sgn r == 0) = false := by
      have : sgn r ≠ 0 := fun h => h0 (sgn_eq.1 h)
      simp [this]
    have e1 : dF md r = rF md (rs r) (nX (rp r) (rq r)) (sX (rp r) (rq r)) := by unfold dF; rw [if_neg h0]
    have e2 : dG md r = rG md (rs r) (nX (rp r) (rq r)) (sX (rp r) (rq r)) := by unfold dG; rw [if_neg h0]
    rw [e1, e2]
    have XC : Hid (∀ W : World, Below w.heap.size w W → XV W (.agg #[.slice A m c, .slice B n d, .int .i64 0, .bool false]) (nX (rp r) (rq r)) (sX (rp r) (rq r)) L) := fun W hb => ⟨_, _, rp r, rq r, 0, false, rfl, hy.v.below hb, hz.v.below hb, rq_pos r, by decide, by decide, hN_frac.1, hN_frac.2⟩
    clear e1 e2 h0
    go_enter Tryz.func68, Tryz.ntmps68
    go_wp2_with fail
    refine (SG.out _ (hq.below (bel_alloc (Below.refl _ _) _))).mono ?_
    rintro x w1 ⟨rfl, hb1⟩
    have B1 : Below w.heap.size w w1 := bel_trans (bel_alloc (Below.refl _ _) _) hb1
    have c0 := hb1.cell (p := ⟨w.heap.size, 0, none⟩) (by simp)
    have c1 := hb1.cell (p := ⟨w.heap.size, 1, none⟩) (by simp)
    have c2 := hb1.cell (p := ⟨w.heap.size, 2, none⟩) (by simp)
    simp [go_sem] at c0 c1 c2
    go_wp2_with fail
    refine (hsigned_any (XC.out _ B1) hL (rs r) md).mono ?_
    rintro x w2 ⟨rfl, hb2⟩
    go_wp2_with fail
    go_ret2
    exact ⟨rfl, bel_trans B1 hb2⟩

theorem hN_int {m E : Int} {r : Bool} : hN m 1 E = rN m (eP E) (eQ E) ∧ hS m 1 E r = rS m (eP E) (eQ E) r := by
  unfold hN hS rN rS
  rw [Int.one_mul]
  exact ⟨rfl, rfl⟩
end Go.Proofs.YtkhddadhkkffnaaGreatDoor
