/-
  The reference of layer 5: contracts of cmp and split; how numbers of the reference stand in halves of the least unit. Conditions: rows of not too many bits.
-/
import Derived.Test.YtdjhpplcdkgfgaaDoorDfrac
import Derived.Test.YtdjhpplcdkgfgaaDoorPatg
namespace Go.Proofs.YtdjhpplcdkgfgaaDoor
open Go.RowKit
set_option maxRecDepth 100000

/-- How a number n, and perhaps more, compares with t. -/
def cmpS (n : Int) (s : Bool) (t : Int) : Int := if n < t then -1 else if n = t ∧ s = false then 0 else 1
theorem cmpS_bd (n : Int) (s : Bool) (t : Int) : -1 ≤ cmpS n s t ∧ cmpS n s t ≤ 1 := by unfold cmpS; split <;> (try split) <;> omega
theorem cmpS_ge {n t : Int} {s : Bool} : 0 ≤ cmpS n s t ↔ t ≤ n := by unfold cmpS; split <;> (try split) <;> omega
theorem cmpI_scale {a b c : Int} (hc : 0 < c) : cmpI (a * c) (b * c) = cmpI a b := by
  have h1 : a * c < b * c ↔ a < b := ⟨fun h => Int.lt_of_mul_lt_mul_right h (Int.le_of_lt hc), fun h => Int.mul_lt_mul_of_pos_right h hc⟩
  have h2 : b * c < a * c ↔ b < a := ⟨fun h => Int.lt_of_mul_lt_mul_right h (Int.le_of_lt hc), fun h => Int.mul_lt_mul_of_pos_right h hc⟩
  unfold cmpI
  simp only [h1, h2]
theorem cmp_floor {P Q t : Int} (hQ : 0 < Q) : cmpI P (t * Q) = cmpS (P / Q) (decide (P % Q ≠ 0)) t := by
  have d := Int.ediv_mul_add_emod P Q
  have r0 := Int.emod_nonneg P (Int.ne_of_gt hQ)
  have r1 := Int.emod_lt_of_pos P hQ
  generalize P / Q = n at *
  generalize P % Q = r at *
  rcases Int.lt_trichotomy n t with h | h | h
  · have : (n + 1) * Q ≤ t * Q := Int.mul_le_mul_of_nonneg_right (by omega) (Int.le_of_lt hQ)
    rw [Int.add_mul] at this
    rw [cmpI_lt (by omega)]
    unfold cmpS
    rw [if_pos h]
  · subst h
    unfold cmpS
    rw [if_neg (by omega)]
    by_cases hr : r = 0
    · subst hr
      rw [show P = n * Q by omega, cmpI_eq]
      simp
    · rw [cmpI_gt (by omega)]
      simp [hr]
  · have : (t + 1) * Q ≤ n * Q := Int.mul_le_mul_of_nonneg_right (by omega) (Int.le_of_lt hQ)
    rw [Int.add_mul] at this
    rw [cmpI_gt (by omega)]
    unfold cmpS
    rw [if_neg (by omega), if_neg (by omega)]
theorem cmpS_rest (n t : Int) (s r : Bool) : (if cmpS n s t = 0 ∧ r = true then 1 else cmpS n s t) = cmpS n (s || r) t := by
  unfold cmpS
  cases s <;> cases r <;> (repeat' split) <;> simp_all

/-- The numbers a / b * 2^E of the reference. -/
def hN (a b E : Int) : Int := a * 2 ^ eP E / (b * 2 ^ eQ E)
def hS (a b E : Int) (r : Bool) : Bool := decide (a * 2 ^ eP E % (b * 2 ^ eQ E) ≠ 0) || r
theorem hcmp_eq {a b E m e : Int} (hb : 0 < b) (he : -1075 ≤ e) :
    cmpI (2 ^ (E - min E e).toNat * a) (2 ^ (e - min E e).toNat * (m * b)) = cmpS (hN a b E) (decide (a * 2 ^ eP E % (b * 2 ^ eQ E) ≠ 0)) (m * 2 ^ (e + 1075).toNat) := by
  have hq : 0 < b * 2 ^ eQ E := Int.mul_pos hb (pow_pos' _)
  unfold hN
  rw [← cmp_floor hq, ← cmpI_scale (pow_pos' (eP E)), ← cmpI_scale (a := a * 2 ^ eP E) (pow_pos' (E - min E e).toNat)]
  congr 1
  · rw [Int.mul_comm (2 ^ (E - min E e).toNat) a, Int.mul_right_comm]
  · have h1 : (2 : Int) ^ (e - min E e).toNat * 2 ^ eP E = 2 ^ (e + 1075).toNat * 2 ^ eQ E * 2 ^ (E - min E e).toNat := by
      rw [← Int.pow_add, ← Int.pow_add, ← Int.pow_add]
      congr 1
      unfold eP eQ
      omega
    rw [Int.mul_comm (2 ^ (e - min E e).toNat), Int.mul_assoc, h1]
    simp only [Int.mul_assoc, Int.mul_left_comm b]

/-- A number of the reference in memory. -/
def XV (w : World) (v : Value) (n : Int) (s : Bool) (L : Nat) : Prop := ∃ ya yb a b E r, v = .agg #[ya, yb, .int .i64 E, .bool r] ∧ RowV w ya a L ∧ RowV w yb b L ∧ 0 < b ∧ -5000 ≤ E ∧ E ≤ 5000 ∧ hN a b E = n ∧ hS a b E r = s
theorem XV.below {w w' : World} {v : Value} {n : Int} {s : Bool} {L : Nat} (h : XV w v n s L) (hb : Below w.heap.size w w') : XV w' v n s L := by
  obtain ⟨ya, yb, a, b, E, r, h1, h2, h3, h4⟩ := h
  exact ⟨ya, yb, a, b, E, r, h1, h2.below hb, h3.below hb, h4⟩
theorem XV.nonneg {w : World} {v : Value} {n : Int} {s : Bool} {L : Nat} (h : XV w v n s L) : 0 ≤ n := by
  obtain ⟨ya, yb, a, b, E, r, h1, h2, h3, h4, _, _, h5, _⟩ := h
  rw [← h5]
  exact Int.ediv_nonneg (Int.mul_nonneg h2.nonneg (Int.le_of_lt (pow_pos' _))) (Int.le_of_lt (Int.mul_pos h4 (pow_pos' _)))

set_option maxHeartbeats 4000000 in
theorem hcmp_any {w : World} {v y : Value} {n m e : Int} {s : Bool} {L K : Nat} (hx : XV w v n s L) (hy : RowV w y m K) (hL : L ≤ 65536) (hK : K ≤ 65536) (he : -1075 ≤ e ∧ e ≤ 5000) :
    Calls Tryd.prog 98 #[v, y, .int .i64 e] w fun x w' => x = .returned (.int .i64 (cmpS n s (m * 2 ^ (e + 1075).toNat))) ∧ Below w.heap.size w w' := by
  obtain ⟨ya, yb, a, b, E, r, rfl, h2, h3, h4, h5, h6, rfl, rfl⟩ := hx
  have EQ := hcmp_eq (a := a) (E := E) (m := m) (e := e) h4 he.1
  have FIN := cmpS_rest (hN a b E) (m * 2 ^ (e + 1075).toNat) (decide (a * 2 ^ eP E % (b * 2 ^ eQ E) ≠ 0)) r
  rw [← EQ] at FIN
  have FIN' : Hid ((if cmpI (2 ^ (E - min E e).toNat * a) (2 ^ (e - min E e).toNat * (m * b)) = 0 ∧ r = true then 1 else cmpI (2 ^ (E - min E e).toNat * a) (2 ^ (e - min E e).toNat * (m * b))) = cmpS (hN a b E) (hS a b E r) (m * 2 ^ (e + 1075).toNat)) := FIN
  clear EQ FIN
  obtain ⟨A, na, ca, rfl⟩ := h2.form
  obtain ⟨B, nb, cb, rfl⟩ := h3.form
  obtain ⟨C, nc, cc, rfl⟩ := hy.form
  have h4' := Lib.hid h4
  generalize hlow : min E e = low at *
  have hl1 : 0 ≤ E - low ∧ E - low ≤ 20000 := by omega
  have hl2 : 0 ≤ e - low ∧ e - low ≤ 20000 := by omega
  go_enter Tryd.func98, Tryd.ntmps98
  go_wp2_with fail
  refine (shlV (h2.alloc _) (by omega) hl1.1 (by omega) (L + (E - low).toNat) (by omega)).mono ?_
  rintro x w1 ⟨v1, n1, rfl, hb1⟩
  obtain ⟨A1, m1, c1, rfl⟩ := n1.form
  have c0 := hb1.cell (p := ⟨w.heap.size, 0, none⟩) (by simp)
  have c1 := hb1.cell (p := ⟨w.heap.size, 1, none⟩) (by simp)
  have c2 := hb1.cell (p := ⟨w.heap.size, 2, none⟩) (by simp)
  have c3 := hb1.cell (p := ⟨w.heap.size, 3, none⟩) (by simp)
  simp [go_sem] at c0 c1 c2 c3
  have hb1' : Below w.heap.size w w1 := bel_trans (bel_alloc (Below.refl _ _) _) hb1
  go_wp2_with fail
  refine (rmulV (hy.below hb1') (h3.below hb1') (by omega) (by omega)).mono ?_
  rintro x w2 ⟨v2, n2, rfl, hb2⟩
  obtain ⟨A2, m2, c2', rfl⟩ := n2.form
  go_wp2_with fail
  refine (shlV n2 (by omega) hl2.1 (by omega) (K + L + 1 + (e - low).toNat) (by omega)).mono ?_
  rintro x w3 ⟨v3, n3, rfl, hb3⟩
  obtain ⟨A3, m3, c3', rfl⟩ := n3.form
  go_wp2_with fail
  refine (rcmpV (n1.below (bel_trans hb2 hb3)) n3 (by omega) (by omega)).mono ?_
  rintro x w4 ⟨rfl, rfl⟩
  have k3 := kp_c (bel_trans hb2 hb3) c3
  have HB := Lib.hid (bel_trans hb1' (bel_trans hb2 hb3))
  have hbd := cmpI_bd (2 ^ (E - low).toNat * a) (2 ^ (e - low).toNat * (m * b))
  generalize cmpI (2 ^ (E - low).toNat * a) (2 ^ (e - low).toNat * (m * b)) = c at *
  by_cases h0 : c = 0
  · subst h0
    cases r
    · go_wp2_with fail
      go_ret
      exact ⟨ret_int FIN'.out, HB.out⟩
    · go_wp2_with fail
      go_ret
      exact ⟨ret_int FIN'.out, HB.out⟩
  · have z : (c == 0) = false := by simp [h0]
    have F := FIN'.out
    rw [if_neg (by intro h; exact h0 h.1)] at F
    have F' := Lib.hid F
    clear F FIN'
    go_wp2_with fail
    go_ret
    exact ⟨ret_int F'.out, HB.out⟩
end Go.Proofs.YtdjhpplcdkgfgaaDoor
