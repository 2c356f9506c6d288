/-
  The reference of layer 5: contracts of cmp and split; how numbers of the reference stand in halves of the least unit. Conditions: rows of not too many bits.
  The reference of layer 5: contracts of split and floor. Conditions: keys of floats, rows of not too many bits.
  The reference of layer 5: the contract of Magnitude. Conditions: rows of not too many bits.
  The reference of layer 5: the walk of Magnitude. Conditions: rows of not too many bits.
  The reference of layer 5: contracts of Signed, Round and Exact. Conditions: rows of not too many bits.
-/
import Derived.Test.YtgjgcehoakacoaaGreatDoorMDa
import Derived.Test.YtgjgcehoakacoaaGreatDoorMPb
namespace Go.Proofs.YtgjgcehoakacoaaGreatDoor
open Go.RowKit
set_option maxRecDepth 100000

/-- How a number n, and perhaps more, compares with t. -/
def cmpS (n : Int) (s : Bool) (t : Int) : Int := if n < t then -1 else if n = t ∧ s = false then 0 else 1
theorem cmpS_bd (n : Int) (s : Bool) (t : Int) : -1 ≤ cmpS n s t ∧ cmpS n s t ≤ 1 := by unfold cmpS; split <;> (try split) <;> omega
theorem cmpS_ge {n t : Int} {s : Bool} : 0 ≤ cmpS n s t ↔ t ≤ n := by unfold cmpS; split <;> (try split) <;> omega
theorem cmpI_scale {a b c : Int} (hc : 0 < c) : cmpI (a * c) (b * c) = cmpI a b := by
  have h1 : a * c < b * c ↔ a < b := ⟨fun h => Int.lt_of_mul_lt_mul_right h (Int.le_of_lt hc), fun h => Int.mul_lt_mul_of_pos_right h hc⟩
  have h2 : b * c < a * c ↔ b < a := ⟨fun h => Int.lt_of_mul_lt_mul_right h (Int.le_of_lt hc), fun h => Int.mul_lt_mul_of_pos_right h hc⟩
  unfold cmpI
  simp only [h1, h2]
theorem cmp_floor {P Q t : Int} (hQ : 0 < Q) : cmpI P (t * Q) = cmpS (P / Q) (decide (P % Q ≠ 0)) t := by
  have d := Int.ediv_mul_add_emod P Q
  have r0 := Int.emod_nonneg P (Int.ne_of_gt hQ)
  have r1 := Int.emod_lt_of_pos P hQ
  generalize P / Q = n at *
  generalize P % Q = r at *
  rcases Int.lt_trichotomy n t with h | h | h
  · have : (n + 1) * Q ≤ t * Q := Int.mul_le_mul_of_nonneg_right (by omega) (Int.le_of_lt hQ)
    rw [Int.add_mul] at this
    rw [cmpI_lt (by omega)]
    unfold cmpS
    rw [if_pos h]
  · subst h
    unfold cmpS
    rw [if_neg (by omega)]
    by_cases hr : r = 0
    · subst hr
      rw [show P = n * Q by omega, cmpI_eq]
      simp
    · rw [cmpI_gt (by omega)]
      simp [hr]
  · have : (t + 1) * Q ≤ n * Q := Int.mul_le_mul_of_nonneg_right (by omega) (Int.le_of_lt hQ)
    rw [Int.add_mul] at this
    rw [cmpI_gt (by omega)]
    unfold cmpS
    rw [if_neg (by omega), if_neg (by omega)]
theorem cmpS_rest (n t : Int) (s r : Bool) : (if cmpS n s t = 0 ∧ r = true then 1 else cmpS n s t) = cmpS n (s || r) t := by
  unfold cmpS
  cases s <;> cases r <;> (repeat' split) <;> simp_all

/-- The numbers a / b * 2^E of the reference. -/
def hN (a b E : Int) : Int := a * 2 ^ eP E / (b * 2 ^ eQ E)
def hS (a b E : Int) (r : Bool) : Bool := decide (a * 2 ^ eP E % (b * 2 ^ eQ E) ≠ 0) || r
theorem hcmp_eq {a b E m e : Int} (hb : 0 < b) (he : -1075 ≤ e) :
    cmpI (2 ^ (E - min E e).toNat * a) (2 ^ (e - min E e).toNat * (m * b)) = cmpS (hN a b E) (decide (a * 2 ^ eP E % (b * 2 ^ eQ E) ≠ 0)) (m * 2 ^ (e + 1075).toNat) := by
  have hq : 0 < b * 2 ^ eQ E := Int.mul_pos hb (pow_pos' _)
  unfold hN
  rw [← cmp_floor hq, ← cmpI_scale (pow_pos' (eP E)), ← cmpI_scale (a := a * 2 ^ eP E) (pow_pos' (E - min E e).toNat)]
  congr 1
  · rw [Int.mul_comm (2 ^ (E - min E e).toNat) a, Int.mul_right_comm]
  · have h1 : (2 : Int) ^ (e - min E e).toNat * 2 ^ eP E = 2 ^ (e + 1075).toNat * 2 ^ eQ E * 2 ^ (E - min E e).toNat := by
      rw [← Int.pow_add, ← Int.pow_add, ← Int.pow_add]
      congr 1
      unfold eP eQ
      omega
    rw [Int.mul_comm (2 ^ (e - min E e).toNat), Int.mul_assoc, h1]
    simp only [Int.mul_assoc, Int.mul_left_comm b]

/-- A number of the reference in memory. -/
def XV (w : World) (v : Value) (n : Int) (s : Bool) (L : Nat) : Prop := ∃ ya yb a b E r, v = .agg #[ya, yb, .int .i64 E, .bool r] ∧ RowV w ya a L ∧ RowV w yb b L ∧ 0 < b ∧ -5000 ≤ E ∧ E ≤ 5000 ∧ hN a b E = n ∧ hS a b E r = s
theorem XV.below {w w' : World} {v : Value} {n : Int} {s : Bool} {L : Nat} (h : XV w v n s L) (hb : Below w.heap.size w w') : XV w' v n s L := by
  obtain ⟨ya, yb, a, b, E, r, h1, h2, h3, h4⟩ := h
  exact ⟨ya, yb, a, b, E, r, h1, h2.below hb, h3.below hb, h4⟩
theorem XV.nonneg {w : World} {v : Value} {n : Int} {s : Bool} {L : Nat} (h : XV w v n s L) : 0 ≤ n := by
  obtain ⟨ya, yb, a, b, E, r, h1, h2, h3, h4, _, _, h5, _⟩ := h
  rw [← h5]
  exact Int.ediv_nonneg (Int.mul_nonneg h2.nonneg (Int.le_of_lt (pow_pos' _))) (Int.le_of_lt (Int.mul_pos h4 (pow_pos' _)))

end Go.Proofs.YtgjgcehoakacoaaGreatDoor
namespace Go.Proofs.YtgjgcehoakacoaaGreatDoor
open Go.RowKit
set_option maxRecDepth 100000

/-- The float of a key: its integer and its exponent; and in units of the least float. -/
def gm (k : Int) : Int := if k / 4503599627370496 = 0 then k % 4503599627370496 else k % 4503599627370496 + 4503599627370496
def gy (k : Int) : Int := if k / 4503599627370496 = 0 then -1074 else k / 4503599627370496 - 1075
def gK (k : Int) : Int := gZ (k / 4503599627370496) (k % 4503599627370496)
theorem gy_bd {k : Int} (h0 : 0 ≤ k) (h1 : k ≤ 9218868437227405312) : -1074 ≤ gy k ∧ gy k ≤ 972 := by unfold gy; split <;> omega
theorem gm_word {k : Int} : Word (gm k) := by unfold gm; constructor <;> split <;> omega
theorem gK_is {k : Int} (h0 : 0 ≤ k) : gm k * 2 ^ (gy k + 1075).toNat = 2 * gK k := by
  unfold gm gy gK gZ
  by_cases h : k / 4503599627370496 = 0
  · rw [if_pos h, if_pos h, if_pos h]
    rw [show (-1074 + 1075 : Int).toNat = 1 by decide]
    omega
  · rw [if_neg h, if_neg h, if_neg h]
    rw [show (k / 4503599627370496 - 1075 + 1075).toNat = (k / 4503599627370496 - 1).toNat + 1 by omega, Int.pow_succ, Int.add_comm 4503599627370496, ← Int.mul_assoc, Int.mul_comm 2]
theorem gK_lt {k k' : Int} (h0 : 0 ≤ k) (h : k < k') : gK k < gK k' := by
  refine gZ_mono ?_ ?_ ?_ ?_ ?_ ?_ ?_ <;> omega

theorem andlow64 {k : Int} (h0 : 0 ≤ k) (h1 : k < 9223372036854775808) : bits BinOp.and IntKind.i64 k 4503599627370495 = k % 4503599627370496 := by
  obtain ⟨j, rfl⟩ := Int.eq_ofNat_of_zero_le h0
  have hj : (BitVec.ofInt 64 (j : Int)).toNat = j := by
    rw [BitVec.ofInt_natCast, BitVec.toNat_ofNat]; exact Nat.mod_eq_of_lt (by omega)
  show IntKind.i64.wrap ((BitVec.ofInt 64 (j : Int) &&& BitVec.ofInt 64 (4503599627370495 : Int)).toNat : Int) = _
  rw [BitVec.toNat_and, hj, show (BitVec.ofInt 64 (4503599627370495 : Int)).toNat = 2 ^ 52 - 1 by decide, Nat.and_two_pow_sub_one_eq_mod, IntKind.wrap_i64]
  omega

/-- Where a number stands among the floats. -/
def IsFloor (n k : Int) : Prop := 0 ≤ k ∧ k ≤ 9218868437227405312 ∧ 2 * gK k ≤ n ∧ (k ≤ 9218868437227405311 → n < 2 * gK (k + 1))

end Go.Proofs.YtgjgcehoakacoaaGreatDoor
namespace Go.Proofs.YtgjgcehoakacoaaGreatDoor
open Go.RowKit
set_option maxRecDepth 100000

theorem gK_of {u : Nat} {W : Int} (h0 : 0 ≤ W) (h1 : W ≤ 9007199254740992) (hu : 0 < u → 4503599627370496 ≤ W) : gK ((u : Int) * 4503599627370496 + W) = W * 2 ^ u := by
  unfold gK gZ
  by_cases a : W < 4503599627370496
  · have : u = 0 := by omega
    subst this
    rw [if_pos (by omega)]
    simp
    omega
  · rw [if_neg (by omega)]
    by_cases b : W < 9007199254740992
    · rw [show (((u : Int) * 4503599627370496 + W) / 4503599627370496 - 1).toNat = u by omega, show 4503599627370496 + ((u : Int) * 4503599627370496 + W) % 4503599627370496 = W by omega]
    · have : W = 9007199254740992 := by omega
      subst this
      rw [show (((u : Int) * 4503599627370496 + 9007199254740992) / 4503599627370496 - 1).toNat = u + 1 by omega, show 4503599627370496 + ((u : Int) * 4503599627370496 + 9007199254740992) % 4503599627370496 = 4503599627370496 by omega, Int.pow_succ, Int.mul_comm (2 ^ u) 2, ← Int.mul_assoc]
      rfl
/-- The key below a number, as if there were no greatest float. -/
def K0 (n : Int) : Int := (rU n : Int) * 4503599627370496 + rW n
theorem K0_nn {n : Int} (h : 0 ≤ n) : 0 ≤ K0 n := by have := (rW_bd h).1; unfold K0; omega
theorem n_parts {n : Int} : n = (2 * rW n + b2i (rH n)) * 2 ^ rU n + n % 2 ^ rU n := by
  have d := Int.ediv_mul_add_emod n (2 ^ rU n)
  have e : n / 2 ^ rU n = 2 * rW n + b2i (rH n) := by
    unfold rW rH b2i
    rw [(left_two (rU n) 1).1]
    simp only [Int.pow_one, decide_eq_true_eq]
    split <;> omega
  rw [e] at d
  omega
theorem K0_floor {n : Int} (h : 0 ≤ n) : 2 * gK (K0 n) ≤ n ∧ n < 2 * gK (K0 n + 1) := by
  obtain ⟨h0, h1, h2⟩ := rW_bd h
  have e1 := gK_of (u := rU n) h0 (by omega) h2
  have e2 := gK_of (u := rU n) (W := rW n + 1) (by omega) (by omega) (by intro h; have := h2 h; omega)
  unfold K0
  rw [Int.add_assoc, e1, e2]
  have p := n_parts (n := n)
  have hp := pow_pos' (rU n)
  have r0 := Int.emod_nonneg n (Int.ne_of_gt hp)
  have r1 := Int.emod_lt_of_pos n hp
  have b := b2i_bd (rH n)
  generalize (2 : Int) ^ rU n = z at *
  generalize n % z = r at *
  generalize b2i (rH n) = c at *
  generalize rW n = W at *
  rw [p]
  have k1 : 0 ≤ c * z := Int.mul_nonneg b.1 (Int.le_of_lt hp)
  have k2 : c * z ≤ 1 * z := Int.mul_le_mul_of_nonneg_right b.2 (Int.le_of_lt hp)
  rw [Int.add_mul, Int.add_mul, Int.mul_assoc]
  omega
theorem floor_key {n k : Int} (h : 0 ≤ n) (hk : IsFloor n k) : k = min (K0 n) 9218868437227405312 := by
  obtain ⟨k0, k1, k2, k3⟩ := hk
  obtain ⟨f1, f2⟩ := K0_floor h
  have hz := K0_nn h
  rcases Int.lt_trichotomy k (K0 n) with a | a | a
  · by_cases b : k ≤ 9218868437227405311
    · have := k3 b
      rcases Int.lt_or_eq_of_le (show k + 1 ≤ K0 n by omega) with c | c
      · have := gK_lt (by omega) c
        omega
      · rw [c] at this
        omega
    · omega
  · omega
  · rcases Int.lt_or_eq_of_le (show K0 n + 1 ≤ k by omega) with c | c
    · have := gK_lt (by omega) c
      omega
    · rw [c] at f2
      omega
theorem key_of (md : Int) (neg : Bool) (n : Int) (s : Bool) : rKey md neg n s = K0 n + b2i (rAway md neg n s) := rfl

/-- What the reference asks about a number below the greatest float. -/
theorem ask_exact {n : Int} {s : Bool} (h : 0 ≤ n) : (cmpS n s (2 * gK (K0 n)) == 0) = rX n s := by
  obtain ⟨h0, h1, h2⟩ := rW_bd h
  have e1 := gK_of (u := rU n) h0 (by omega) h2
  have p := n_parts (n := n)
  have hp := pow_pos' (rU n)
  have r0 := Int.emod_nonneg n (Int.ne_of_gt hp)
  unfold K0
  rw [e1]
  unfold rX rB cmpS
  generalize (2 : Int) ^ rU n = z at *
  generalize n % z = r at *
  generalize rW n = W at *
  have e3 : 2 * (W * z) = 2 * W * z := by rw [Int.mul_assoc]
  rw [e3]
  cases hH : rH n
  · rw [hH, show b2i false = 0 by rfl, Int.add_zero] at p
    by_cases hr : r = 0
    · subst hr
      rw [show n = 2 * W * z by omega]
      cases s <;> simp
    · rw [if_neg (by omega), if_neg (by omega)]
      simp [hr]
  · rw [hH, show b2i true = 1 by rfl, Int.add_mul] at p
    rw [if_neg (by omega), if_neg (by omega)]
    simp
theorem ask_under {n : Int} {s : Bool} (h : 0 ≤ n) : decide (cmpS n s 9007199254740992 < 0) = decide (rW n < 4503599627370496) := by
  have e : n < 9007199254740992 ↔ rW n < 4503599627370496 := by
    rw [rW_small h]
    constructor
    · intro h1
      exact blen_le2 (k := 52) (by omega) (by have : (2 : Int) ^ 52 = 4503599627370496 := by decide
                                              omega)
    · intro h1
      have := blen_lt (a := n / 2) (k := 52) (by omega) h1
      have e2 : (2 : Int) ^ 52 = 4503599627370496 := by decide
      omega
  unfold cmpS
  by_cases hn : n < 9007199254740992
  · rw [if_pos hn, decide_eq_true (e.1 hn)]
    rfl
  · rw [if_neg hn, decide_eq_false (fun h => hn (e.2 h))]
    split <;> rfl
theorem mid_is {n : Int} (h : 0 ≤ n) : (2 * gm (K0 n) + 1) * 2 ^ (gy (K0 n) - 1 + 1075).toNat = (2 * rW n + 1) * 2 ^ rU n := by
  obtain ⟨h0, h1, h2⟩ := rW_bd h
  have e1 : gm (K0 n) = rW n := by
    unfold gm K0
    split <;> omega
  have e2 : (gy (K0 n) - 1 + 1075).toNat = rU n := by
    unfold gy K0
    split <;> omega
  rw [e1, e2]
theorem ask_mid {n : Int} {s : Bool} : decide (0 < cmpS n s ((2 * rW n + 1) * 2 ^ rU n)) = (rH n && rB n s) ∧ (cmpS n s ((2 * rW n + 1) * 2 ^ rU n) == 0) = (rH n && !rB n s) := by
  have p := n_parts (n := n)
  have hp := pow_pos' (rU n)
  have r0 := Int.emod_nonneg n (Int.ne_of_gt hp)
  have r1 := Int.emod_lt_of_pos n hp
  unfold rB cmpS
  generalize (2 : Int) ^ rU n = z at *
  generalize n % z = r at *
  generalize rW n = W at *
  cases hH : rH n
  · rw [hH, show b2i false = 0 by rfl, Int.add_zero] at p
    rw [Int.add_mul, if_pos (by omega)]
    exact ⟨rfl, rfl⟩
  · rw [hH, show b2i true = 1 by rfl] at p
    by_cases hr : r = 0
    · subst hr
      rw [show n = (2 * W + 1) * z by omega]
      cases s <;> simp
    · rw [if_neg (by omega), if_neg (by omega)]
      simp [hr]
theorem K0_odd {n : Int} (h : 0 ≤ n) : (K0 n).tmod 2 = rW n % 2 := by
  rw [Int.tmod_eq_emod_of_nonneg (K0_nn h)]
  unfold K0
  omega
end Go.Proofs.YtgjgcehoakacoaaGreatDoor
namespace Go.Proofs.YtgjgcehoakacoaaGreatDoor
open Go.RowKit
set_option maxRecDepth 100000

/-- The cells of a number of the reference in its block. -/
structure At4 (w : World) (g : Nat) (A B : Option Addr) (na ca nb cb : Nat) (E : Int) (r : Bool) : Prop where
  c0 : w.cell? ⟨g, 0, none⟩ = some (.slice A na ca)
  c1 : w.cell? ⟨g, 1, none⟩ = some (.slice B nb cb)
  c2 : w.cell? ⟨g, 2, none⟩ = some (.int .i64 E)
  c3 : w.cell? ⟨g, 3, none⟩ = some (.bool r)
theorem At4.below {w w' : World} {g : Nat} {A B : Option Addr} {na ca nb cb : Nat} {E : Int} {r : Bool} (h : At4 w g A B na ca nb cb E r) (hb : Below w.heap.size w w') : At4 w' g A B na ca nb cb E r :=
  ⟨kp_c hb h.c0, kp_c hb h.c1, kp_c hb h.c2, kp_c hb h.c3⟩
theorem At4.new (w : World) (t : TypeId) (A B : Option Addr) (na ca nb cb : Nat) (E : Int) (r : Bool) : At4 (w.alloc (.cells #[.slice A na ca, .slice B nb cb, .int .i64 E, .bool r] t)) w.heap.size A B na ca nb cb E r := by
  constructor <;> simp [go_sem]

theorem away_up {n : Int} {s : Bool} : rAway 1 false n s = !rX n s := by simp [rAway]
theorem away_down {n : Int} {s : Bool} : rAway 2 false n s = false := by simp [rAway]
theorem away_near {md n : Int} {s : Bool} {neg : Bool} (h1 : ¬ md = 1) (h2 : ¬ md = 2) : rAway md neg n s = (rH n && (rB n s || decide (rW n % 2 = 1))) := by simp [rAway, h1, h2]
theorem fin_no {md n : Int} {s : Bool} (_hn : 0 ≤ n) (ht : K0 n ≤ 9218868437227405311) (hA : rAway md false n s = false) : rMag md false n s = K0 n ∧ rG md false n s = if rX n s = true then 0 else if rW n < 4503599627370496 then 3 else 1 := by
  have e := key_of md false n s
  rw [hA, show b2i false = 0 by rfl, Int.add_zero] at e
  unfold rMag rG
  rw [if_pos (by omega), if_pos (by omega)]
  exact ⟨e, rfl⟩
theorem fin_up {md n : Int} {s : Bool} (_hn : 0 ≤ n) (hA : rAway md false n s = true) (ht : K0 n < 9218868437227405311) : rMag md false n s = K0 n + 1 ∧ rG md false n s = if rX n s = true then 0 else if rW n < 4503599627370496 then 3 else 1 := by
  have e := key_of md false n s
  rw [hA, show b2i true = 1 by rfl] at e
  unfold rMag rG
  rw [if_pos (by omega), if_pos (by omega)]
  exact ⟨e, rfl⟩
theorem fin_over {md n : Int} {s : Bool} (hA : rAway md false n s = true) (ht : 9218868437227405311 ≤ K0 n) : rMag md false n s = rBey md false ∧ rG md false n s = 5 := by
  have e := key_of md false n s
  rw [hA, show b2i true = 1 by rfl] at e
  unfold rMag rG
  rw [if_neg (by omega), if_neg (by omega)]
  exact ⟨rfl, rfl⟩
theorem fin_beyond {md n : Int} {s : Bool} (ht : 9218868437227405311 < K0 n) : rMag md false n s = rBey md false ∧ rG md false n s = 5 := by
  have e := key_of md false n s
  have := b2i_bd (rAway md false n s)
  unfold rMag rG
  rw [if_neg (by omega), if_neg (by omega)]
  exact ⟨rfl, rfl⟩
def RetK (k f : Int) (w : World) (e : Ending) (w' : World) : Prop := e = .returned (.tuple #[.int .i64 k, .int .u8 f]) ∧ Below w.heap.size w w'

end Go.Proofs.YtgjgcehoakacoaaGreatDoor
namespace Go.Proofs.YtgjgcehoakacoaaGreatDoor
open Go.RowKit
set_option maxRecDepth 100000

theorem away_turn1 (n : Int) (s : Bool) : rAway 2 false n s = rAway 1 true n s := by simp [rAway]
theorem away_turn2 (n : Int) (s : Bool) : rAway 1 false n s = rAway 2 true n s := by simp [rAway]
theorem away_neg {md n : Int} {s : Bool} (h1 : ¬ md = 1) (h2 : ¬ md = 2) : rAway md false n s = rAway md true n s := by simp [rAway, h1, h2]
theorem bey_turn1 : rBey 2 false = rBey 1 true := by decide
theorem bey_turn2 : rBey 1 false = rBey 2 true := by decide
theorem bey_neg {md : Int} (h1 : ¬ md = 1) (h2 : ¬ md = 2) : rBey md false = rBey md true := by simp [rBey, h1, h2]
theorem turn {md md' n : Int} {s : Bool} (h1 : rAway md' false n s = rAway md true n s) (h2 : rBey md' false = rBey md true) : rMag md' false n s = rMag md true n s ∧ rG md' false n s = rG md true n s := by
  have hk : rKey md' false n s = rKey md true n s := by unfold rKey; rw [h1]
  unfold rMag rG
  rw [hk, h2]
  exact ⟨rfl, rfl⟩
theorem of_pos {k : Int} (h : 0 ≤ k) : fOf k false = k + sg false := by
  unfold fOf sg
  rw [if_neg (by intro h2; rcases h2 with h2 | h2; omega; exact absurd h2.2 (by decide))]
  simp
theorem of_min {k : Int} (h : 0 ≤ k) : fOf (-k) true = k + sg true := by
  unfold fOf sg
  rw [if_pos (by rcases Int.lt_or_eq_of_le h with h2 | h2; exact .inl (by omega); exact .inr ⟨by omega, rfl⟩)]
  simp

/-- A fraction of the reference. -/
theorem hN_frac {p q : Int} : hN p q 0 = nX p q ∧ hS p q 0 false = sX p q := by
  have h1 : eP 0 = 1075 := by decide
  have h2 : eQ 0 = 0 := by decide
  unfold hN hS nX sX q2
  rw [h1, h2, Int.pow_zero, Int.mul_one, Bool.or_false]
  exact ⟨rfl, rfl⟩

theorem hN_int {m E : Int} {r : Bool} : hN m 1 E = rN m (eP E) (eQ E) ∧ hS m 1 E r = rS m (eP E) (eQ E) r := by
  unfold hN hS rN rS
  rw [Int.one_mul]
  exact ⟨rfl, rfl⟩
end Go.Proofs.YtgjgcehoakacoaaGreatDoor
