/-
  Contracts of the reference's Add, Mul, Div and Sqrt, of any floats: they answer what soft's do. Conditions: floats are words.
-/
import Derived.Test.YtkdckclefegocaaSofG
import Derived.Test.YtkdckclefegocaaRsq
namespace Go.Proofs.Ytkdckclefegocaa
open Go.RowKit
set_option maxRecDepth 100000

/-- A difference of rows of which the first is not less, in whatever length that is enough. -/
theorem rsubN {A B : Option Addr} {n m c d : Nat} {w : World} {p q : Int} {L M : Nat} (h : RowV w (.slice A n c) p L) (k : RowV w (.slice B m d) q M) (hL : L ≤ 1048576) (hM : M ≤ 1048576) (N : Int) (hN : N = (n : Int) + m) (hle : q ≤ p) : Calls Try.prog 40 #[.slice A n c, .slice B m d, .int .i64 N] w (RetSubR (p - q) (L + M) w) := by
  obtain ⟨A', n', c', xs, e1, hn, hc, hr, hv, hl⟩ := h
  obtain ⟨B', m', d', ys, e2, hm, hd, hs, hw, hk⟩ := k
  injection e1 with e1 e3 e4
  injection e2 with e2 e5 e6
  subst e1 e2 e3 e4 e5 e6
  refine (rsub_any A B n m c d xs ys N w hn hm hr hs (by omega) (by omega) (by omega) (by omega)).mono fun e w' r => ?_
  obtain ⟨zs, b, A3, c3, pp, e1, hc3, _, hr3, hb3⟩ := r
  have hNn : N.toNat = n + m := by omega
  rw [hNn] at pp
  have e := pp.eq
  have n0 := val_nonneg zs
  have n1 := val_lt zs
  have n2 := val_lt xs
  have lz := pp.len
  rw [lz] at n1
  have px := pow_mono xs.length (n + m) (by omega)
  rw [List.take_of_length_le (by omega), List.take_of_length_le (by omega), hv, hw] at e
  rw [hv] at n2
  refine ⟨_, b, ⟨A3, zs.length, c3, zs, rfl, rfl, hc3, hr3, ?_, by omega⟩, e1, hb3⟩
  cases b
  · simp at e
    omega
  · simp at e
    omega

theorem sv_sum (s : Bool) (p q : Int) : sv s p + sv s q = sv s (p + q) := by cases s <;> simp [sv] <;> omega
theorem sv_dif {s t : Bool} (h : s ≠ t) (p q : Int) : sv s p + sv t q = sv s (p - q) ∧ sv s p + sv t q = sv t (q - p) := by
  cases s <;> cases t <;> simp at h <;> simp [sv] <;> omega
/-- What the reference rounds for a sum. -/
theorem ref_round {a b : Int} (ha : Word a) (hb : Word b) (h1 : fC a < 3) (h2 : fC b < 3) {n : Bool} {S low : Int} (hz : zI a b = sv n (S * 2 ^ (low + 1074).toNat)) (hS : 0 < S) (l0 : -1074 ≤ low) (l1 : low ≤ 972) (md : Int) :
    rF md n (rN S (eP (eC low)) (eQ (eC low))) (rS S (eP (eC low)) (eQ (eC low)) (false && decide (54 ≤ blen S))) = smF md a b ∧ rG md n (rN S (eP (eC low)) (eQ (eC low))) (rS S (eP (eC low)) (eQ (eC low)) (false && decide (54 ≤ blen S))) = smG md a b := by
  have hM : 0 < S * 2 ^ (low + 1074).toNat := Int.mul_pos hS (pow_pos' _)
  obtain ⟨s1, s2, s3⟩ := sv_lt (s := n) hM
  have e := sum_is ha hb h1 h2
  rw [hz] at e
  obtain ⟨d1, d2⟩ := dF_int s3 md
  rw [s1, s2] at d1 d2
  rw [eC_small (by omega) (by omega), Bool.false_and]
  have hx : 2 * (S * 2 ^ (low + 1074).toNat) * 2 ^ eQ low = S * 2 ^ eP low := by
    rw [show eQ low = 0 by unfold eQ; omega, Int.pow_zero, Int.mul_one, Int.mul_comm 2, Int.mul_assoc, ← Int.pow_succ]
    congr 2
    unfold eP
    omega
  obtain ⟨r1, r2⟩ := rN_exact hx false
  rw [r1, r2]
  unfold smF smG
  rw [e, if_neg (fun h => s3 (mk_zero.1 h))]
  exact ⟨d1.symm, d2.symm⟩
theorem ref_nil {a b : Int} (ha : Word a) (hb : Word b) (h1 : fC a < 3) (h2 : fC b < 3) {n : Bool} {k : Int} (hz : zI a b = sv n (0 * k)) (md : Int) :
    smF md a b = sg (if fS a = fS b then fS a else decide (md = 2)) ∧ smG md a b = 0 := by
  have e := sum_is ha hb h1 h2
  rw [hz, Int.zero_mul, sv_nil] at e
  have e0 : fV a + fV b = 0 := by rw [e]; exact Rat.zero_mkRat _
  unfold smF smG dG
  rw [if_pos e0, if_pos e0]
  exact ⟨rfl, rfl⟩
/-- Both operands over the same power of two. -/
theorem over_low {a X e low d : Int} (hd : d = e - low) (h : X * 2 ^ (e + 1074).toNat = fMg a) (he : low ≤ e) (l0 : -1074 ≤ low) : 2 ^ d.toNat * X * 2 ^ (low + 1074).toNat = fMg a := by
  subst hd
  rw [← h, Int.mul_comm (2 ^ (e - low).toNat), Int.mul_assoc, ← Int.pow_add]
  congr 2
  omega
theorem over_nil {a e : Int} (ha : Word a) (h1 : fC a < 3) (h : fX a = 0) : fX a * 2 ^ (e + 1074).toNat = fMg a := by
  rw [(fMg_zero ha h1).2 h, h, Int.zero_mul]
theorem blen_none {x : Int} (h : 0 ≤ x) : (blen x == 0) = decide (x = 0) := by
  rw [Bool.eq_iff_iff]
  simp only [beq_iff_eq, decide_eq_true_eq]
  rcases Int.lt_or_eq_of_le h with k | k
  · obtain ⟨j, e, -, -⟩ := blen_at k
    omega
  · rw [← k, blen_nought]
theorem RowV.formL {w : World} {v : Value} {p : Int} {L : Nat} (h : RowV w v p L) : ∃ A n c, v = .slice A n c ∧ n ≤ L := by
  obtain ⟨A, n, c, xs, e, _, _, _, _, hl⟩ := h
  exact ⟨A, n, c, e, hl⟩
theorem is_two (md : Int) : (md == 2) = decide (md = 2) := by rw [Bool.eq_iff_iff]; simp
theorem cmp_at {a b : Int} : decide (0 ≤ cmpI a b) = decide (b ≤ a) := by
  refine dec_iff ?_
  unfold cmpI
  split <;> (try split) <;> omega
theorem cmp_at' {a b : Int} : (cmpI a b < 0) = (a < b) := by
  unfold cmpI
  split <;> (try split) <;> simp <;> omega
set_option maxHeartbeats 4000000 in
theorem kadd_N1 (a b md : Int) (ha : Word a) (_hb : Word b) (h : fC a = 4) (w : World) :
    Calls Try.prog 12 #[.int .u64 a, .int .u64 b, .int .u8 md] w (RetF (saF md a b) (saG md a b) w) := by
  have e1 : saF md a b = 9221120237041090560 := by unfold saF; rw [if_pos (by omega)]
  have e2 : saG md a b = 0 := by unfold saG; rw [if_pos (by omega)]
  rw [e1, e2]
  clear e1 e2
  have na : decide (fC a = 4) = true := decide_eq_true (by omega)
  clear h
  go_enter Try.func12, Try.ntmps12
  go_wp2_with fail
  refine (kis_any a 4 ha _).mono ?_
  rw [na]
  rintro e w2 ⟨rfl, rfl⟩
  go_wp2_with fail
  go_ret2
  exact ⟨rfl, Below.refl _ _⟩
set_option maxHeartbeats 4000000 in
theorem kadd_N2 (a b md : Int) (ha : Word a) (hb : Word b) (h0 : fC a ≠ 4) (h : fC b = 4) (w : World) :
    Calls Try.prog 12 #[.int .u64 a, .int .u64 b, .int .u8 md] w (RetF (saF md a b) (saG md a b) w) := by
  have e1 : saF md a b = 9221120237041090560 := by unfold saF; rw [if_pos (by omega)]
  have e2 : saG md a b = 0 := by unfold saG; rw [if_pos (by omega)]
  rw [e1, e2]
  clear e1 e2
  have na : decide (fC a = 4) = false := decide_eq_false (by omega)
  have nb : decide (fC b = 4) = true := decide_eq_true (by omega)
  clear h h0
  go_enter Try.func12, Try.ntmps12
  go_wp2_with fail
  refine (kis_any a 4 ha _).mono ?_
  rw [na]
  rintro e w2 ⟨rfl, rfl⟩
  go_wp2_with fail
  refine (kis_any b 4 hb _).mono ?_
  rw [nb]
  rintro e w2 ⟨rfl, rfl⟩
  go_wp2_with fail
  go_ret2
  exact ⟨rfl, Below.refl _ _⟩
set_option maxHeartbeats 4000000 in
theorem kadd_II (a b md : Int) (ha : Word a) (hb : Word b) (n1 : fC a ≠ 4) (n2 : fC b ≠ 4) (i1 : fC a = 3) (i2 : fC b = 3) (hs : fS a ≠ fS b) (w : World) :
    Calls Try.prog 12 #[.int .u64 a, .int .u64 b, .int .u8 md] w (RetF (saF md a b) (saG md a b) w) := by
  have e1 : saF md a b = 9221120237041090560 := by unfold saF; rw [if_neg (by omega), if_pos ⟨i1, i2, hs⟩]
  have e2 : saG md a b = 16 := by unfold saG; rw [if_neg (by omega), if_pos ⟨i1, i2, hs⟩]
  rw [e1, e2]
  clear e1 e2
  have na : decide (fC a = 4) = false := decide_eq_false (by omega)
  have nb : decide (fC b = 4) = false := decide_eq_false (by omega)
  have ia : decide (fC a = 3) = true := decide_eq_true (by omega)
  have ib : decide (fC b = 3) = true := decide_eq_true (by omega)
  have t1 : (fS a == fS b) = false := by cases h : fS a <;> cases h' : fS b <;> rw [h, h'] at hs <;> simp at hs ⊢
  have t0 : (fS a != fS b) = true := by cases h : fS a <;> cases h' : fS b <;> rw [h, h'] at hs <;> simp at hs ⊢
  clear i1 i2 hs
  go_enter Try.func12, Try.ntmps12
  go_wp2_with fail
  refine (kis_any a 4 ha _).mono ?_
  rw [na]
  rintro e w2 ⟨rfl, rfl⟩
  go_wp2_with fail
  refine (kis_any b 4 hb _).mono ?_
  rw [nb]
  rintro e w2 ⟨rfl, rfl⟩
  go_wp2_with fail
  refine (kis_any a 3 ha _).mono ?_
  rw [ia]
  rintro e w2 ⟨rfl, rfl⟩
  go_wp2_with fail
  refine (kis_any b 3 hb _).mono ?_
  rw [ib]
  rintro e w2 ⟨rfl, rfl⟩
  go_wp2_with fail
  refine (kneg_any a ha _).mono ?_
  rintro e w2 ⟨rfl, rfl⟩
  go_wp2_with fail
  refine (kneg_any b hb _).mono ?_
  rintro e w2 ⟨rfl, rfl⟩
  go_wp2_with fail
  go_ret2
  exact ⟨rfl, Below.refl _ _⟩
set_option maxHeartbeats 4000000 in
theorem kadd_IJ (a b md : Int) (ha : Word a) (hb : Word b) (n1 : fC a ≠ 4) (n2 : fC b ≠ 4) (i1 : fC a = 3) (i2 : fC b = 3) (hs : fS a = fS b) (w : World) :
    Calls Try.prog 12 #[.int .u64 a, .int .u64 b, .int .u8 md] w (RetF (saF md a b) (saG md a b) w) := by
  have e1 : saF md a b = a := by unfold saF; rw [if_neg (by omega), if_neg (fun h => h.2.2 hs), if_pos i1]
  have e2 : saG md a b = 0 := by unfold saG; rw [if_neg (by omega), if_neg (fun h => h.2.2 hs), if_pos i1]
  rw [e1, e2]
  clear e1 e2
  have na : decide (fC a = 4) = false := decide_eq_false (by omega)
  have nb : decide (fC b = 4) = false := decide_eq_false (by omega)
  have ia : decide (fC a = 3) = true := decide_eq_true (by omega)
  have ib : decide (fC b = 3) = true := decide_eq_true (by omega)
  have t1 : (fS a == fS b) = true := by cases h : fS a <;> cases h' : fS b <;> rw [h, h'] at hs <;> simp at hs ⊢
  have t0 : (fS a != fS b) = false := by cases h : fS a <;> cases h' : fS b <;> rw [h, h'] at hs <;> simp at hs ⊢
  clear i1 i2 hs
  go_enter Try.func12, Try.ntmps12
  go_wp2_with fail
  refine (kis_any a 4 ha _).mono ?_
  rw [na]
  rintro e w2 ⟨rfl, rfl⟩
  go_wp2_with fail
  refine (kis_any b 4 hb _).mono ?_
  rw [nb]
  rintro e w2 ⟨rfl, rfl⟩
  go_wp2_with fail
  refine (kis_any a 3 ha _).mono ?_
  rw [ia]
  rintro e w2 ⟨rfl, rfl⟩
  go_wp2_with fail
  refine (kis_any b 3 hb _).mono ?_
  rw [ib]
  rintro e w2 ⟨rfl, rfl⟩
  go_wp2_with fail
  refine (kneg_any a ha _).mono ?_
  rintro e w2 ⟨rfl, rfl⟩
  go_wp2_with fail
  refine (kneg_any b hb _).mono ?_
  rintro e w2 ⟨rfl, rfl⟩
  go_wp2_with fail
  refine (kis_any a 3 ha _).mono ?_
  rw [ia]
  rintro e w2 ⟨rfl, rfl⟩
  go_wp2_with fail
  go_ret2
  exact ⟨rfl, Below.refl _ _⟩
set_option maxHeartbeats 4000000 in
theorem kadd_IF (a b md : Int) (ha : Word a) (hb : Word b) (n1 : fC a ≠ 4) (n2 : fC b ≠ 4) (i1 : fC a = 3) (i2 : fC b ≠ 3) (w : World) :
    Calls Try.prog 12 #[.int .u64 a, .int .u64 b, .int .u8 md] w (RetF (saF md a b) (saG md a b) w) := by
  have e1 : saF md a b = a := by unfold saF; rw [if_neg (by omega), if_neg (fun h => i2 h.2.1), if_pos i1]
  have e2 : saG md a b = 0 := by unfold saG; rw [if_neg (by omega), if_neg (fun h => i2 h.2.1), if_pos i1]
  rw [e1, e2]
  clear e1 e2
  have na : decide (fC a = 4) = false := decide_eq_false (by omega)
  have nb : decide (fC b = 4) = false := decide_eq_false (by omega)
  have ia : decide (fC a = 3) = true := decide_eq_true (by omega)
  have ib : decide (fC b = 3) = false := decide_eq_false (by omega)
  clear i1 i2
  go_enter Try.func12, Try.ntmps12
  go_wp2_with fail
  refine (kis_any a 4 ha _).mono ?_
  rw [na]
  rintro e w2 ⟨rfl, rfl⟩
  go_wp2_with fail
  refine (kis_any b 4 hb _).mono ?_
  rw [nb]
  rintro e w2 ⟨rfl, rfl⟩
  go_wp2_with fail
  refine (kis_any a 3 ha _).mono ?_
  rw [ia]
  rintro e w2 ⟨rfl, rfl⟩
  go_wp2_with fail
  refine (kis_any b 3 hb _).mono ?_
  rw [ib]
  rintro e w2 ⟨rfl, rfl⟩
  go_wp2_with fail
  refine (kis_any a 3 ha _).mono ?_
  rw [ia]
  rintro e w2 ⟨rfl, rfl⟩
  go_wp2_with fail
  go_ret2
  exact ⟨rfl, Below.refl _ _⟩
set_option maxHeartbeats 4000000 in
theorem kadd_FI (a b md : Int) (ha : Word a) (hb : Word b) (n1 : fC a ≠ 4) (n2 : fC b ≠ 4) (i1 : fC a ≠ 3) (i2 : fC b = 3) (w : World) :
    Calls Try.prog 12 #[.int .u64 a, .int .u64 b, .int .u8 md] w (RetF (saF md a b) (saG md a b) w) := by
  have e1 : saF md a b = b := by unfold saF; rw [if_neg (by omega), if_neg (fun h => i1 h.1), if_neg i1, if_pos i2]
  have e2 : saG md a b = 0 := by unfold saG; rw [if_neg (by omega), if_neg (fun h => i1 h.1), if_neg i1, if_pos i2]
  rw [e1, e2]
  clear e1 e2
  have na : decide (fC a = 4) = false := decide_eq_false (by omega)
  have nb : decide (fC b = 4) = false := decide_eq_false (by omega)
  have ia : decide (fC a = 3) = false := decide_eq_false (by omega)
  have ib : decide (fC b = 3) = true := decide_eq_true (by omega)
  clear i1 i2
  go_enter Try.func12, Try.ntmps12
  go_wp2_with fail
  refine (kis_any a 4 ha _).mono ?_
  rw [na]
  rintro e w2 ⟨rfl, rfl⟩
  go_wp2_with fail
  refine (kis_any b 4 hb _).mono ?_
  rw [nb]
  rintro e w2 ⟨rfl, rfl⟩
  go_wp2_with fail
  refine (kis_any a 3 ha _).mono ?_
  rw [ia]
  rintro e w2 ⟨rfl, rfl⟩
  go_wp2_with fail
  refine (kis_any a 3 ha _).mono ?_
  rw [ia]
  rintro e w2 ⟨rfl, rfl⟩
  go_wp2_with fail
  refine (kis_any b 3 hb _).mono ?_
  rw [ib]
  rintro e w2 ⟨rfl, rfl⟩
  go_wp2_with fail
  go_ret2
  exact ⟨rfl, Below.refl _ _⟩
set_option maxHeartbeats 8000000 in
theorem kadd_nn_same0 (a b md : Int) (ha : Word a) (hb : Word b) (h1 : fC a < 3) (h2 : fC b < 3) (hx : fX a ≠ 0) (hy : fX b ≠ 0) (hs : fS a = fS b) (hS : (2 ^ (fY a - min (fY a) (fY b)).toNat * fX a) + (2 ^ (fY b - min (fY a) (fY b)).toNat * fX b) = 0) (w : World) :
    Calls Try.prog 12 #[.int .u64 a, .int .u64 b, .int .u8 md] w (RetF (saF md a b) (saG md a b) w) := by
  have e1 : saF md a b = smF md a b := by unfold saF; rw [if_neg (by omega), if_neg (fun h => by omega), if_neg (by omega), if_neg (by omega)]
  have e2 : saG md a b = smG md a b := by unfold saG; rw [if_neg (by omega), if_neg (fun h => by omega), if_neg (by omega), if_neg (by omega)]
  rw [e1, e2]
  clear e1 e2
  have na : decide (fC a = 4) = false := decide_eq_false (by omega)
  have nb : decide (fC b = 4) = false := decide_eq_false (by omega)
  have ia : decide (fC a = 3) = false := decide_eq_false (by omega)
  have ib : decide (fC b = 3) = false := decide_eq_false (by omega)
  have SA := Lib.hid (fun w => gsplit_any a ha w)
  have SB := Lib.hid (fun w => gsplit_any b hb w)
  have xa := fX_word a
  have xb := fX_word b
  have ya := fY_bd a
  have yb := fY_bd b
  have HA : fX a * 2 ^ (fY a + 1074).toNat = fMg a := fMg_is ha h1
  have HB : fX b * 2 ^ (fY b + 1074).toNat = fMg b := fMg_is hb h2
  obtain ⟨low, hl⟩ : ∃ low, min (fY a) (fY b) = low := ⟨_, rfl⟩
  rw [hl] at hS
  have l0 : -1074 ≤ low ∧ low ≤ 972 ∧ low ≤ fY a ∧ low ≤ fY b := by omega
  have KA := over_low (d := (fY a - low)) (by omega) HA l0.2.2.1 l0.1
  have KB := over_low (d := (fY b - low)) (by omega) HB l0.2.2.2 l0.1
  have dA : 0 ≤ (fY a - low) ∧ (fY a - low) ≤ 2100 := by omega
  have dB : 0 ≤ (fY b - low) ∧ (fY b - low) ≤ 2100 := by omega
  have pA0 : 0 ≤ 2 ^ (fY a - low).toNat * fX a := Int.mul_nonneg (Int.le_of_lt (pow_pos' _)) xa.1
  have pB0 : 0 ≤ 2 ^ (fY b - low).toNat * fX b := Int.mul_nonneg (Int.le_of_lt (pow_pos' _)) xb.1
  obtain ⟨P, hP⟩ : ∃ P, 2 ^ (fY a - low).toNat * fX a = P := ⟨_, rfl⟩
  obtain ⟨Q, hQ⟩ : ∃ Q, 2 ^ (fY b - low).toNat * fX b = Q := ⟨_, rfl⟩
  rw [hP] at pA0 KA hS
  rw [hQ] at pB0 KB hS
  have hz : zI a b = sv (fS a) ((P + Q) * 2 ^ (low + 1074).toNat) := by unfold zI; rw [← hs, sv_sum, Int.add_mul, KA, KB]
  rw [hS] at hz
  obtain ⟨f0, g0⟩ := ref_nil ha hb h1 h2 hz md
  rw [f0, g0]
  rw [if_pos hs]
  clear f0 g0
  have t0 : (fS a == fS b) = true := by cases h : fS a <;> cases h' : fS b <;> rw [h, h'] at hs <;> simp at hs ⊢
  have zx : (fX a == 0) = false := by simpa using hx
  have zy : (fX b == 0) = false := by simpa using hy
  clear hx hy
  have HL := Lib.hid hl
  have HP := Lib.hid hP
  have HQ := Lib.hid hQ
  have s0 : 0 ≤ P + Q := by omega
  have LZ : (blen (P + Q) == 0) = true := by rw [blen_none s0]; simp; omega
  have HLZ := Lib.hid LZ
  clear h1 h2 HA HB KA KB hz hl hP hQ hs LZ hS
  go_enter Try.func12, Try.ntmps12
  go_wp2_with fail
  refine (kis_any a 4 ha _).mono ?_
  rw [na]
  rintro e w2 ⟨rfl, rfl⟩
  go_wp2_with fail
  refine (kis_any b 4 hb _).mono ?_
  rw [nb]
  rintro e w2 ⟨rfl, rfl⟩
  go_wp2_with fail
  refine (kis_any a 3 ha _).mono ?_
  rw [ia]
  rintro e w2 ⟨rfl, rfl⟩
  go_wp2_with fail
  refine (kis_any a 3 ha _).mono ?_
  rw [ia]
  rintro e w2 ⟨rfl, rfl⟩
  go_wp2_with fail
  refine (kis_any b 3 hb _).mono ?_
  rw [ib]
  rintro e w2 ⟨rfl, rfl⟩
  go_wp2_with fail
  refine (SA.out _).mono ?_
  rintro e w2 ⟨rfl, rfl⟩
  go_wp2_with fail
  refine (SB.out _).mono ?_
  rintro e w2 ⟨rfl, rfl⟩
  go_wp2_with fail
  refine (kbits_any _ xa _).mono ?_
  rintro e w1 ⟨v1, r1, rfl, hb1⟩
  rw [HL.out]
  have HB1 := Lib.hid hb1
  clear hb1
  go_wp2_with fail
  refine (shlV r1.v (by decide) dA.1 (by omega) 2200 (by omega)).mono ?_
  rintro e w2 ⟨v2, r2, rfl, hb2⟩
  rw [HP.out] at r2
  have HB2 := Lib.hid (bel_trans HB1.out hb2)
  clear hb2 HB1 r1
  go_wp2_with fail
  refine (kbits_any _ xb _).mono ?_
  rintro e w3 ⟨v3, r3, rfl, hb3⟩
  have r4 := r2.below hb3
  have HB3 := Lib.hid (bel_trans HB2.out hb3)
  clear hb3 HB2 r2
  go_wp2_with fail
  refine (shlV r3.v (by decide) dB.1 (by omega) 2200 (by omega)).mono ?_
  rintro e w4 ⟨v4, r5, rfl, hb4⟩
  rw [HQ.out] at r5
  have r6 := r4.below hb4
  have HB4 := Lib.hid (bel_trans HB3.out hb4)
  clear hb4 HB3 r4 r3
  go_wp2_with fail
  refine (kneg_any a ha _).mono ?_
  rintro e w5 ⟨rfl, rfl⟩
  go_wp2_with fail
  refine (kneg_any a ha _).mono ?_
  rintro e w5 ⟨rfl, rfl⟩
  go_wp2_with fail
  refine (kneg_any b hb _).mono ?_
  rintro e w5 ⟨rfl, rfl⟩
  go_wp2_with fail
  refine (raddV r6 r5 (by decide) (by decide)).mono ?_
  rintro e w5 ⟨v5, r7, rfl, hb5⟩
  have r8 := r7.mono (show 2200 + 2200 + 1 ≤ 5000 by decide)
  have HB5 := Lib.hid (bel_trans HB4.out hb5)
  clear hb5 HB4 r7 r6 r5
  go_wp2_with fail
  refine (rlenV r8 (by decide)).mono ?_
  rintro e w6 ⟨rfl, rfl⟩
  have lz := HLZ.out
  go_wp2_with fail
  refine (kneg_any a ha _).mono ?_
  rintro e w7 ⟨rfl, rfl⟩
  go_wp2_with fail
  refine (kneg_any b hb _).mono ?_
  rintro e w7 ⟨rfl, rfl⟩
  go_wp2_with fail
  refine (kneg_any a ha _).mono ?_
  rintro e w7 ⟨rfl, rfl⟩
  go_wp2_with fail
  refine (kzero_any _ _).mono ?_
  rintro e w7 ⟨rfl, rfl⟩
  go_wp2_with fail
  go_ret2
  exact ⟨rfl, HB5.out⟩
set_option maxHeartbeats 8000000 in
theorem kadd_nn_same1 (a b md : Int) (ha : Word a) (hb : Word b) (h1 : fC a < 3) (h2 : fC b < 3) (hx : fX a ≠ 0) (hy : fX b ≠ 0) (hs : fS a = fS b) (hS : (2 ^ (fY a - min (fY a) (fY b)).toNat * fX a) + (2 ^ (fY b - min (fY a) (fY b)).toNat * fX b) ≠ 0) (w : World) :
    Calls Try.prog 12 #[.int .u64 a, .int .u64 b, .int .u8 md] w (RetF (saF md a b) (saG md a b) w) := by
  have e1 : saF md a b = smF md a b := by unfold saF; rw [if_neg (by omega), if_neg (fun h => by omega), if_neg (by omega), if_neg (by omega)]
  have e2 : saG md a b = smG md a b := by unfold saG; rw [if_neg (by omega), if_neg (fun h => by omega), if_neg (by omega), if_neg (by omega)]
  rw [e1, e2]
  clear e1 e2
  have na : decide (fC a = 4) = false := decide_eq_false (by omega)
  have nb : decide (fC b = 4) = false := decide_eq_false (by omega)
  have ia : decide (fC a = 3) = false := decide_eq_false (by omega)
  have ib : decide (fC b = 3) = false := decide_eq_false (by omega)
  have SA := Lib.hid (fun w => gsplit_any a ha w)
  have SB := Lib.hid (fun w => gsplit_any b hb w)
  have xa := fX_word a
  have xb := fX_word b
  have ya := fY_bd a
  have yb := fY_bd b
  have HA : fX a * 2 ^ (fY a + 1074).toNat = fMg a := fMg_is ha h1
  have HB : fX b * 2 ^ (fY b + 1074).toNat = fMg b := fMg_is hb h2
  obtain ⟨low, hl⟩ : ∃ low, min (fY a) (fY b) = low := ⟨_, rfl⟩
  rw [hl] at hS
  have l0 : -1074 ≤ low ∧ low ≤ 972 ∧ low ≤ fY a ∧ low ≤ fY b := by omega
  have KA := over_low (d := (fY a - low)) (by omega) HA l0.2.2.1 l0.1
  have KB := over_low (d := (fY b - low)) (by omega) HB l0.2.2.2 l0.1
  have dA : 0 ≤ (fY a - low) ∧ (fY a - low) ≤ 2100 := by omega
  have dB : 0 ≤ (fY b - low) ∧ (fY b - low) ≤ 2100 := by omega
  have pA0 : 0 ≤ 2 ^ (fY a - low).toNat * fX a := Int.mul_nonneg (Int.le_of_lt (pow_pos' _)) xa.1
  have pB0 : 0 ≤ 2 ^ (fY b - low).toNat * fX b := Int.mul_nonneg (Int.le_of_lt (pow_pos' _)) xb.1
  obtain ⟨P, hP⟩ : ∃ P, 2 ^ (fY a - low).toNat * fX a = P := ⟨_, rfl⟩
  obtain ⟨Q, hQ⟩ : ∃ Q, 2 ^ (fY b - low).toNat * fX b = Q := ⟨_, rfl⟩
  rw [hP] at pA0 KA hS
  rw [hQ] at pB0 KB hS
  have hz : zI a b = sv (fS a) ((P + Q) * 2 ^ (low + 1074).toNat) := by unfold zI; rw [← hs, sv_sum, Int.add_mul, KA, KB]
  have pS : 0 < P + Q := by omega
  obtain ⟨f0, g0⟩ := ref_round ha hb h1 h2 hz pS l0.1 l0.2.1 md
  have CR : Hid (∀ (w : World) (v : Value), RowV w v (P + Q) 5000 → Calls Try.prog 43 #[.bool (fS a), v, .int .i64 (low), .bool false, .int .u8 md] w (RetF (smF md a b) (smG md a b) w)) := by
    intro w v hv
    have R := hround_pos hv (by decide) pS (fS a) (low) false md
    rw [f0, g0] at R
    exact R
  clear f0 g0 pS
  have t0 : (fS a == fS b) = true := by cases h : fS a <;> cases h' : fS b <;> rw [h, h'] at hs <;> simp at hs ⊢
  have zx : (fX a == 0) = false := by simpa using hx
  have zy : (fX b == 0) = false := by simpa using hy
  clear hx hy
  have HL := Lib.hid hl
  have HP := Lib.hid hP
  have HQ := Lib.hid hQ
  have s0 : 0 ≤ P + Q := by omega
  have LZ : (blen (P + Q) == 0) = false := by rw [blen_none s0]; simp; omega
  have HLZ := Lib.hid LZ
  clear h1 h2 HA HB KA KB hz hl hP hQ hs LZ hS
  go_enter Try.func12, Try.ntmps12
  go_wp2_with fail
  refine (kis_any a 4 ha _).mono ?_
  rw [na]
  rintro e w2 ⟨rfl, rfl⟩
  go_wp2_with fail
  refine (kis_any b 4 hb _).mono ?_
  rw [nb]
  rintro e w2 ⟨rfl, rfl⟩
  go_wp2_with fail
  refine (kis_any a 3 ha _).mono ?_
  rw [ia]
  rintro e w2 ⟨rfl, rfl⟩
  go_wp2_with fail
  refine (kis_any a 3 ha _).mono ?_
  rw [ia]
  rintro e w2 ⟨rfl, rfl⟩
  go_wp2_with fail
  refine (kis_any b 3 hb _).mono ?_
  rw [ib]
  rintro e w2 ⟨rfl, rfl⟩
  go_wp2_with fail
  refine (SA.out _).mono ?_
  rintro e w2 ⟨rfl, rfl⟩
  go_wp2_with fail
  refine (SB.out _).mono ?_
  rintro e w2 ⟨rfl, rfl⟩
  go_wp2_with fail
  refine (kbits_any _ xa _).mono ?_
  rintro e w1 ⟨v1, r1, rfl, hb1⟩
  rw [HL.out]
  have HB1 := Lib.hid hb1
  clear hb1
  go_wp2_with fail
  refine (shlV r1.v (by decide) dA.1 (by omega) 2200 (by omega)).mono ?_
  rintro e w2 ⟨v2, r2, rfl, hb2⟩
  rw [HP.out] at r2
  have HB2 := Lib.hid (bel_trans HB1.out hb2)
  clear hb2 HB1 r1
  go_wp2_with fail
  refine (kbits_any _ xb _).mono ?_
  rintro e w3 ⟨v3, r3, rfl, hb3⟩
  have r4 := r2.below hb3
  have HB3 := Lib.hid (bel_trans HB2.out hb3)
  clear hb3 HB2 r2
  go_wp2_with fail
  refine (shlV r3.v (by decide) dB.1 (by omega) 2200 (by omega)).mono ?_
  rintro e w4 ⟨v4, r5, rfl, hb4⟩
  rw [HQ.out] at r5
  have r6 := r4.below hb4
  have HB4 := Lib.hid (bel_trans HB3.out hb4)
  clear hb4 HB3 r4 r3
  go_wp2_with fail
  refine (kneg_any a ha _).mono ?_
  rintro e w5 ⟨rfl, rfl⟩
  go_wp2_with fail
  refine (kneg_any a ha _).mono ?_
  rintro e w5 ⟨rfl, rfl⟩
  go_wp2_with fail
  refine (kneg_any b hb _).mono ?_
  rintro e w5 ⟨rfl, rfl⟩
  go_wp2_with fail
  refine (raddV r6 r5 (by decide) (by decide)).mono ?_
  rintro e w5 ⟨v5, r7, rfl, hb5⟩
  have r8 := r7.mono (show 2200 + 2200 + 1 ≤ 5000 by decide)
  have HB5 := Lib.hid (bel_trans HB4.out hb5)
  clear hb5 HB4 r7 r6 r5
  go_wp2_with fail
  refine (rlenV r8 (by decide)).mono ?_
  rintro e w6 ⟨rfl, rfl⟩
  have lz := HLZ.out
  go_wp2_with fail
  refine (CR.out _ _ r8).mono ?_
  rintro e w7 ⟨rfl, hb7⟩
  go_wp2_with fail
  go_ret2
  exact ⟨rfl, bel_trans HB5.out hb7⟩
set_option maxHeartbeats 8000000 in
theorem kadd_nn_ge0 (a b md : Int) (ha : Word a) (hb : Word b) (h1 : fC a < 3) (h2 : fC b < 3) (hx : fX a ≠ 0) (hy : fX b ≠ 0) (hs : fS a ≠ fS b) (hc : 2 ^ (fY b - min (fY a) (fY b)).toNat * fX b ≤ 2 ^ (fY a - min (fY a) (fY b)).toNat * fX a) (hS : (2 ^ (fY a - min (fY a) (fY b)).toNat * fX a) - (2 ^ (fY b - min (fY a) (fY b)).toNat * fX b) = 0) (w : World) :
    Calls Try.prog 12 #[.int .u64 a, .int .u64 b, .int .u8 md] w (RetF (saF md a b) (saG md a b) w) := by
  have e1 : saF md a b = smF md a b := by unfold saF; rw [if_neg (by omega), if_neg (fun h => by omega), if_neg (by omega), if_neg (by omega)]
  have e2 : saG md a b = smG md a b := by unfold saG; rw [if_neg (by omega), if_neg (fun h => by omega), if_neg (by omega), if_neg (by omega)]
  rw [e1, e2]
  clear e1 e2
  have na : decide (fC a = 4) = false := decide_eq_false (by omega)
  have nb : decide (fC b = 4) = false := decide_eq_false (by omega)
  have ia : decide (fC a = 3) = false := decide_eq_false (by omega)
  have ib : decide (fC b = 3) = false := decide_eq_false (by omega)
  have SA := Lib.hid (fun w => gsplit_any a ha w)
  have SB := Lib.hid (fun w => gsplit_any b hb w)
  have xa := fX_word a
  have xb := fX_word b
  have ya := fY_bd a
  have yb := fY_bd b
  have HA : fX a * 2 ^ (fY a + 1074).toNat = fMg a := fMg_is ha h1
  have HB : fX b * 2 ^ (fY b + 1074).toNat = fMg b := fMg_is hb h2
  obtain ⟨low, hl⟩ : ∃ low, min (fY a) (fY b) = low := ⟨_, rfl⟩
  rw [hl] at hc hS
  have l0 : -1074 ≤ low ∧ low ≤ 972 ∧ low ≤ fY a ∧ low ≤ fY b := by omega
  have KA := over_low (d := (fY a - low)) (by omega) HA l0.2.2.1 l0.1
  have KB := over_low (d := (fY b - low)) (by omega) HB l0.2.2.2 l0.1
  have dA : 0 ≤ (fY a - low) ∧ (fY a - low) ≤ 2100 := by omega
  have dB : 0 ≤ (fY b - low) ∧ (fY b - low) ≤ 2100 := by omega
  have pA0 : 0 ≤ 2 ^ (fY a - low).toNat * fX a := Int.mul_nonneg (Int.le_of_lt (pow_pos' _)) xa.1
  have pB0 : 0 ≤ 2 ^ (fY b - low).toNat * fX b := Int.mul_nonneg (Int.le_of_lt (pow_pos' _)) xb.1
  obtain ⟨P, hP⟩ : ∃ P, 2 ^ (fY a - low).toNat * fX a = P := ⟨_, rfl⟩
  obtain ⟨Q, hQ⟩ : ∃ Q, 2 ^ (fY b - low).toNat * fX b = Q := ⟨_, rfl⟩
  rw [hP] at pA0 KA hc hS
  rw [hQ] at pB0 KB hc hS
  have hz : zI a b = sv (fS a) ((P - Q) * 2 ^ (low + 1074).toNat) := by unfold zI; rw [(sv_dif hs _ _).1, Int.sub_mul, KA, KB]
  rw [hS] at hz
  obtain ⟨f0, g0⟩ := ref_nil ha hb h1 h2 hz md
  rw [f0, g0]
  rw [if_neg hs]
  clear f0 g0
  have t0 : (fS a == fS b) = false := by cases h : fS a <;> cases h' : fS b <;> rw [h, h'] at hs <;> simp at hs ⊢
  have zx : (fX a == 0) = false := by simpa using hx
  have zy : (fX b == 0) = false := by simpa using hy
  clear hx hy
  have HL := Lib.hid hl
  have HP := Lib.hid hP
  have HQ := Lib.hid hQ
  have s0 : 0 ≤ P - Q := by omega
  have LZ : (blen (P - Q) == 0) = true := by rw [blen_none s0]; simp; omega
  have HLZ := Lib.hid LZ
  have tc : Hid (∀ w : World, decide (0 ≤ cmpI P Q) = true) := fun _ => by rw [cmp_at]; exact decide_eq_true hc
  have hle := hc
  clear h1 h2 HA HB KA KB hz hl hP hQ hs LZ hS
  clear hc
  go_enter Try.func12, Try.ntmps12
  go_wp2_with fail
  refine (kis_any a 4 ha _).mono ?_
  rw [na]
  rintro e w2 ⟨rfl, rfl⟩
  go_wp2_with fail
  refine (kis_any b 4 hb _).mono ?_
  rw [nb]
  rintro e w2 ⟨rfl, rfl⟩
  go_wp2_with fail
  refine (kis_any a 3 ha _).mono ?_
  rw [ia]
  rintro e w2 ⟨rfl, rfl⟩
  go_wp2_with fail
  refine (kis_any a 3 ha _).mono ?_
  rw [ia]
  rintro e w2 ⟨rfl, rfl⟩
  go_wp2_with fail
  refine (kis_any b 3 hb _).mono ?_
  rw [ib]
  rintro e w2 ⟨rfl, rfl⟩
  go_wp2_with fail
  refine (SA.out _).mono ?_
  rintro e w2 ⟨rfl, rfl⟩
  go_wp2_with fail
  refine (SB.out _).mono ?_
  rintro e w2 ⟨rfl, rfl⟩
  go_wp2_with fail
  refine (kbits_any _ xa _).mono ?_
  rintro e w1 ⟨v1, r1, rfl, hb1⟩
  rw [HL.out]
  have HB1 := Lib.hid hb1
  clear hb1
  go_wp2_with fail
  refine (shlV r1.v (by decide) dA.1 (by omega) 2200 (by omega)).mono ?_
  rintro e w2 ⟨v2, r2, rfl, hb2⟩
  rw [HP.out] at r2
  have HB2 := Lib.hid (bel_trans HB1.out hb2)
  clear hb2 HB1 r1
  go_wp2_with fail
  refine (kbits_any _ xb _).mono ?_
  rintro e w3 ⟨v3, r3, rfl, hb3⟩
  have r4 := r2.below hb3
  have HB3 := Lib.hid (bel_trans HB2.out hb3)
  clear hb3 HB2 r2
  go_wp2_with fail
  refine (shlV r3.v (by decide) dB.1 (by omega) 2200 (by omega)).mono ?_
  rintro e w4 ⟨v4, r5, rfl, hb4⟩
  rw [HQ.out] at r5
  have r6 := r4.below hb4
  have HB4 := Lib.hid (bel_trans HB3.out hb4)
  clear hb4 HB3 r4 r3
  go_wp2_with fail
  refine (kneg_any a ha _).mono ?_
  rintro e w5 ⟨rfl, rfl⟩
  go_wp2_with fail
  refine (kneg_any a ha _).mono ?_
  rintro e w5 ⟨rfl, rfl⟩
  go_wp2_with fail
  refine (kneg_any b hb _).mono ?_
  rintro e w5 ⟨rfl, rfl⟩
  obtain ⟨A2, n2, c2, rfl, hn2⟩ := r6.formL
  obtain ⟨A4, n4, c4, rfl, hn4⟩ := r5.formL
  go_wp2_with fail
  refine (rcmpV r6 r5 (by decide) (by decide)).mono ?_
  rintro e w5 ⟨rfl, rfl⟩
  have tcc := tc.out w4
  go_wp2_with fail
  refine (rsubN r6 r5 (by decide) (by decide) _ (by first | omega | (rw [wrap64_in (by omega) (by omega)] <;> omega)) hle).mono ?_
  rintro e w5 ⟨v5, b5, r7, rfl, hb5⟩
  have r8 := r7.mono (show 2200 + 2200 ≤ 5000 by decide)
  have HB5 := Lib.hid (bel_trans HB4.out hb5)
  clear hb5 HB4 r7 r6 r5 tcc
  go_wp2_with fail
  refine (rlenV r8 (by decide)).mono ?_
  rintro e w6 ⟨rfl, rfl⟩
  have lz := HLZ.out
  go_wp2_with fail
  refine (kneg_any a ha _).mono ?_
  rintro e w7 ⟨rfl, rfl⟩
  go_wp2_with fail
  refine (kneg_any b hb _).mono ?_
  rintro e w7 ⟨rfl, rfl⟩
  go_wp2_with fail
  refine (kzero_any _ _).mono ?_
  rw [is_two]
  rintro e w7 ⟨rfl, rfl⟩
  go_wp2_with fail
  go_ret2
  exact ⟨rfl, HB5.out⟩
set_option maxHeartbeats 8000000 in
theorem kadd_nn_ge1 (a b md : Int) (ha : Word a) (hb : Word b) (h1 : fC a < 3) (h2 : fC b < 3) (hx : fX a ≠ 0) (hy : fX b ≠ 0) (hs : fS a ≠ fS b) (hc : 2 ^ (fY b - min (fY a) (fY b)).toNat * fX b ≤ 2 ^ (fY a - min (fY a) (fY b)).toNat * fX a) (hS : (2 ^ (fY a - min (fY a) (fY b)).toNat * fX a) - (2 ^ (fY b - min (fY a) (fY b)).toNat * fX b) ≠ 0) (w : World) :
    Calls Try.prog 12 #[.int .u64 a, .int .u64 b, .int .u8 md] w (RetF (saF md a b) (saG md a b) w) := by
  have e1 : saF md a b = smF md a b := by unfold saF; rw [if_neg (by omega), if_neg (fun h => by omega), if_neg (by omega), if_neg (by omega)]
  have e2 : saG md a b = smG md a b := by unfold saG; rw [if_neg (by omega), if_neg (fun h => by omega), if_neg (by omega), if_neg (by omega)]
  rw [e1, e2]
  clear e1 e2
  have na : decide (fC a = 4) = false := decide_eq_false (by omega)
  have nb : decide (fC b = 4) = false := decide_eq_false (by omega)
  have ia : decide (fC a = 3) = false := decide_eq_false (by omega)
  have ib : decide (fC b = 3) = false := decide_eq_false (by omega)
  have SA := Lib.hid (fun w => gsplit_any a ha w)
  have SB := Lib.hid (fun w => gsplit_any b hb w)
  have xa := fX_word a
  have xb := fX_word b
  have ya := fY_bd a
  have yb := fY_bd b
  have HA : fX a * 2 ^ (fY a + 1074).toNat = fMg a := fMg_is ha h1
  have HB : fX b * 2 ^ (fY b + 1074).toNat = fMg b := fMg_is hb h2
  obtain ⟨low, hl⟩ : ∃ low, min (fY a) (fY b) = low := ⟨_, rfl⟩
  rw [hl] at hc hS
  have l0 : -1074 ≤ low ∧ low ≤ 972 ∧ low ≤ fY a ∧ low ≤ fY b := by omega
  have KA := over_low (d := (fY a - low)) (by omega) HA l0.2.2.1 l0.1
  have KB := over_low (d := (fY b - low)) (by omega) HB l0.2.2.2 l0.1
  have dA : 0 ≤ (fY a - low) ∧ (fY a - low) ≤ 2100 := by omega
  have dB : 0 ≤ (fY b - low) ∧ (fY b - low) ≤ 2100 := by omega
  have pA0 : 0 ≤ 2 ^ (fY a - low).toNat * fX a := Int.mul_nonneg (Int.le_of_lt (pow_pos' _)) xa.1
  have pB0 : 0 ≤ 2 ^ (fY b - low).toNat * fX b := Int.mul_nonneg (Int.le_of_lt (pow_pos' _)) xb.1
  obtain ⟨P, hP⟩ : ∃ P, 2 ^ (fY a - low).toNat * fX a = P := ⟨_, rfl⟩
  obtain ⟨Q, hQ⟩ : ∃ Q, 2 ^ (fY b - low).toNat * fX b = Q := ⟨_, rfl⟩
  rw [hP] at pA0 KA hc hS
  rw [hQ] at pB0 KB hc hS
  have hz : zI a b = sv (fS a) ((P - Q) * 2 ^ (low + 1074).toNat) := by unfold zI; rw [(sv_dif hs _ _).1, Int.sub_mul, KA, KB]
  have pS : 0 < P - Q := by omega
  obtain ⟨f0, g0⟩ := ref_round ha hb h1 h2 hz pS l0.1 l0.2.1 md
  have CR : Hid (∀ (w : World) (v : Value), RowV w v (P - Q) 5000 → Calls Try.prog 43 #[.bool (fS a), v, .int .i64 (low), .bool false, .int .u8 md] w (RetF (smF md a b) (smG md a b) w)) := by
    intro w v hv
    have R := hround_pos hv (by decide) pS (fS a) (low) false md
    rw [f0, g0] at R
    exact R
  clear f0 g0 pS
  have t0 : (fS a == fS b) = false := by cases h : fS a <;> cases h' : fS b <;> rw [h, h'] at hs <;> simp at hs ⊢
  have zx : (fX a == 0) = false := by simpa using hx
  have zy : (fX b == 0) = false := by simpa using hy
  clear hx hy
  have HL := Lib.hid hl
  have HP := Lib.hid hP
  have HQ := Lib.hid hQ
  have s0 : 0 ≤ P - Q := by omega
  have LZ : (blen (P - Q) == 0) = false := by rw [blen_none s0]; simp; omega
  have HLZ := Lib.hid LZ
  have tc : Hid (∀ w : World, decide (0 ≤ cmpI P Q) = true) := fun _ => by rw [cmp_at]; exact decide_eq_true hc
  have hle := hc
  clear h1 h2 HA HB KA KB hz hl hP hQ hs LZ hS
  clear hc
  go_enter Try.func12, Try.ntmps12
  go_wp2_with fail
  refine (kis_any a 4 ha _).mono ?_
  rw [na]
  rintro e w2 ⟨rfl, rfl⟩
  go_wp2_with fail
  refine (kis_any b 4 hb _).mono ?_
  rw [nb]
  rintro e w2 ⟨rfl, rfl⟩
  go_wp2_with fail
  refine (kis_any a 3 ha _).mono ?_
  rw [ia]
  rintro e w2 ⟨rfl, rfl⟩
  go_wp2_with fail
  refine (kis_any a 3 ha _).mono ?_
  rw [ia]
  rintro e w2 ⟨rfl, rfl⟩
  go_wp2_with fail
  refine (kis_any b 3 hb _).mono ?_
  rw [ib]
  rintro e w2 ⟨rfl, rfl⟩
  go_wp2_with fail
  refine (SA.out _).mono ?_
  rintro e w2 ⟨rfl, rfl⟩
  go_wp2_with fail
  refine (SB.out _).mono ?_
  rintro e w2 ⟨rfl, rfl⟩
  go_wp2_with fail
  refine (kbits_any _ xa _).mono ?_
  rintro e w1 ⟨v1, r1, rfl, hb1⟩
  rw [HL.out]
  have HB1 := Lib.hid hb1
  clear hb1
  go_wp2_with fail
  refine (shlV r1.v (by decide) dA.1 (by omega) 2200 (by omega)).mono ?_
  rintro e w2 ⟨v2, r2, rfl, hb2⟩
  rw [HP.out] at r2
  have HB2 := Lib.hid (bel_trans HB1.out hb2)
  clear hb2 HB1 r1
  go_wp2_with fail
  refine (kbits_any _ xb _).mono ?_
  rintro e w3 ⟨v3, r3, rfl, hb3⟩
  have r4 := r2.below hb3
  have HB3 := Lib.hid (bel_trans HB2.out hb3)
  clear hb3 HB2 r2
  go_wp2_with fail
  refine (shlV r3.v (by decide) dB.1 (by omega) 2200 (by omega)).mono ?_
  rintro e w4 ⟨v4, r5, rfl, hb4⟩
  rw [HQ.out] at r5
  have r6 := r4.below hb4
  have HB4 := Lib.hid (bel_trans HB3.out hb4)
  clear hb4 HB3 r4 r3
  go_wp2_with fail
  refine (kneg_any a ha _).mono ?_
  rintro e w5 ⟨rfl, rfl⟩
  go_wp2_with fail
  refine (kneg_any a ha _).mono ?_
  rintro e w5 ⟨rfl, rfl⟩
  go_wp2_with fail
  refine (kneg_any b hb _).mono ?_
  rintro e w5 ⟨rfl, rfl⟩
  obtain ⟨A2, n2, c2, rfl, hn2⟩ := r6.formL
  obtain ⟨A4, n4, c4, rfl, hn4⟩ := r5.formL
  go_wp2_with fail
  refine (rcmpV r6 r5 (by decide) (by decide)).mono ?_
  rintro e w5 ⟨rfl, rfl⟩
  have tcc := tc.out w4
  go_wp2_with fail
  refine (rsubN r6 r5 (by decide) (by decide) _ (by first | omega | (rw [wrap64_in (by omega) (by omega)] <;> omega)) hle).mono ?_
  rintro e w5 ⟨v5, b5, r7, rfl, hb5⟩
  have r8 := r7.mono (show 2200 + 2200 ≤ 5000 by decide)
  have HB5 := Lib.hid (bel_trans HB4.out hb5)
  clear hb5 HB4 r7 r6 r5 tcc
  go_wp2_with fail
  refine (rlenV r8 (by decide)).mono ?_
  rintro e w6 ⟨rfl, rfl⟩
  have lz := HLZ.out
  go_wp2_with fail
  refine (CR.out _ _ r8).mono ?_
  rintro e w7 ⟨rfl, hb7⟩
  go_wp2_with fail
  go_ret2
  exact ⟨rfl, bel_trans HB5.out hb7⟩
set_option maxHeartbeats 8000000 in
theorem kadd_nn_lt (a b md : Int) (ha : Word a) (hb : Word b) (h1 : fC a < 3) (h2 : fC b < 3) (hx : fX a ≠ 0) (hy : fX b ≠ 0) (hs : fS a ≠ fS b) (hc : 2 ^ (fY a - min (fY a) (fY b)).toNat * fX a < 2 ^ (fY b - min (fY a) (fY b)).toNat * fX b) (w : World) :
    Calls Try.prog 12 #[.int .u64 a, .int .u64 b, .int .u8 md] w (RetF (saF md a b) (saG md a b) w) := by
  have e1 : saF md a b = smF md a b := by unfold saF; rw [if_neg (by omega), if_neg (fun h => by omega), if_neg (by omega), if_neg (by omega)]
  have e2 : saG md a b = smG md a b := by unfold saG; rw [if_neg (by omega), if_neg (fun h => by omega), if_neg (by omega), if_neg (by omega)]
  rw [e1, e2]
  clear e1 e2
  have na : decide (fC a = 4) = false := decide_eq_false (by omega)
  have nb : decide (fC b = 4) = false := decide_eq_false (by omega)
  have ia : decide (fC a = 3) = false := decide_eq_false (by omega)
  have ib : decide (fC b = 3) = false := decide_eq_false (by omega)
  have SA := Lib.hid (fun w => gsplit_any a ha w)
  have SB := Lib.hid (fun w => gsplit_any b hb w)
  have xa := fX_word a
  have xb := fX_word b
  have ya := fY_bd a
  have yb := fY_bd b
  have HA : fX a * 2 ^ (fY a + 1074).toNat = fMg a := fMg_is ha h1
  have HB : fX b * 2 ^ (fY b + 1074).toNat = fMg b := fMg_is hb h2
  obtain ⟨low, hl⟩ : ∃ low, min (fY a) (fY b) = low := ⟨_, rfl⟩
  rw [hl] at hc
  have l0 : -1074 ≤ low ∧ low ≤ 972 ∧ low ≤ fY a ∧ low ≤ fY b := by omega
  have KA := over_low (d := (fY a - low)) (by omega) HA l0.2.2.1 l0.1
  have KB := over_low (d := (fY b - low)) (by omega) HB l0.2.2.2 l0.1
  have dA : 0 ≤ (fY a - low) ∧ (fY a - low) ≤ 2100 := by omega
  have dB : 0 ≤ (fY b - low) ∧ (fY b - low) ≤ 2100 := by omega
  have pA0 : 0 ≤ 2 ^ (fY a - low).toNat * fX a := Int.mul_nonneg (Int.le_of_lt (pow_pos' _)) xa.1
  have pB0 : 0 ≤ 2 ^ (fY b - low).toNat * fX b := Int.mul_nonneg (Int.le_of_lt (pow_pos' _)) xb.1
  obtain ⟨P, hP⟩ : ∃ P, 2 ^ (fY a - low).toNat * fX a = P := ⟨_, rfl⟩
  obtain ⟨Q, hQ⟩ : ∃ Q, 2 ^ (fY b - low).toNat * fX b = Q := ⟨_, rfl⟩
  rw [hP] at pA0 KA hc
  rw [hQ] at pB0 KB hc
  have hz : zI a b = sv (fS b) ((Q - P) * 2 ^ (low + 1074).toNat) := by unfold zI; rw [(sv_dif hs _ _).2, Int.sub_mul, KA, KB]
  have pS : 0 < Q - P := by omega
  obtain ⟨f0, g0⟩ := ref_round ha hb h1 h2 hz pS l0.1 l0.2.1 md
  have CR : Hid (∀ (w : World) (v : Value), RowV w v (Q - P) 5000 → Calls Try.prog 43 #[.bool (fS b), v, .int .i64 (low), .bool false, .int .u8 md] w (RetF (smF md a b) (smG md a b) w)) := by
    intro w v hv
    have R := hround_pos hv (by decide) pS (fS b) (low) false md
    rw [f0, g0] at R
    exact R
  clear f0 g0 pS
  have t0 : (fS a == fS b) = false := by cases h : fS a <;> cases h' : fS b <;> rw [h, h'] at hs <;> simp at hs ⊢
  have zx : (fX a == 0) = false := by simpa using hx
  have zy : (fX b == 0) = false := by simpa using hy
  clear hx hy
  have HL := Lib.hid hl
  have HP := Lib.hid hP
  have HQ := Lib.hid hQ
  have s0 : 0 ≤ Q - P := by omega
  have LZ : (blen (Q - P) == 0) = false := by rw [blen_none s0]; simp; omega
  have HLZ := Lib.hid LZ
  have tc : Hid (∀ w : World, decide (0 ≤ cmpI P Q) = false) := fun _ => by rw [cmp_at]; exact decide_eq_false (by omega)
  have hle : P ≤ Q := by omega
  clear h1 h2 HA HB KA KB hz hl hP hQ hs LZ
  clear hc
  go_enter Try.func12, Try.ntmps12
  go_wp2_with fail
  refine (kis_any a 4 ha _).mono ?_
  rw [na]
  rintro e w2 ⟨rfl, rfl⟩
  go_wp2_with fail
  refine (kis_any b 4 hb _).mono ?_
  rw [nb]
  rintro e w2 ⟨rfl, rfl⟩
  go_wp2_with fail
  refine (kis_any a 3 ha _).mono ?_
  rw [ia]
  rintro e w2 ⟨rfl, rfl⟩
  go_wp2_with fail
  refine (kis_any a 3 ha _).mono ?_
  rw [ia]
  rintro e w2 ⟨rfl, rfl⟩
  go_wp2_with fail
  refine (kis_any b 3 hb _).mono ?_
  rw [ib]
  rintro e w2 ⟨rfl, rfl⟩
  go_wp2_with fail
  refine (SA.out _).mono ?_
  rintro e w2 ⟨rfl, rfl⟩
  go_wp2_with fail
  refine (SB.out _).mono ?_
  rintro e w2 ⟨rfl, rfl⟩
  go_wp2_with fail
  refine (kbits_any _ xa _).mono ?_
  rintro e w1 ⟨v1, r1, rfl, hb1⟩
  rw [HL.out]
  have HB1 := Lib.hid hb1
  clear hb1
  go_wp2_with fail
  refine (shlV r1.v (by decide) dA.1 (by omega) 2200 (by omega)).mono ?_
  rintro e w2 ⟨v2, r2, rfl, hb2⟩
  rw [HP.out] at r2
  have HB2 := Lib.hid (bel_trans HB1.out hb2)
  clear hb2 HB1 r1
  go_wp2_with fail
  refine (kbits_any _ xb _).mono ?_
  rintro e w3 ⟨v3, r3, rfl, hb3⟩
  have r4 := r2.below hb3
  have HB3 := Lib.hid (bel_trans HB2.out hb3)
  clear hb3 HB2 r2
  go_wp2_with fail
  refine (shlV r3.v (by decide) dB.1 (by omega) 2200 (by omega)).mono ?_
  rintro e w4 ⟨v4, r5, rfl, hb4⟩
  rw [HQ.out] at r5
  have r6 := r4.below hb4
  have HB4 := Lib.hid (bel_trans HB3.out hb4)
  clear hb4 HB3 r4 r3
  go_wp2_with fail
  refine (kneg_any a ha _).mono ?_
  rintro e w5 ⟨rfl, rfl⟩
  go_wp2_with fail
  refine (kneg_any a ha _).mono ?_
  rintro e w5 ⟨rfl, rfl⟩
  go_wp2_with fail
  refine (kneg_any b hb _).mono ?_
  rintro e w5 ⟨rfl, rfl⟩
  obtain ⟨A2, n2, c2, rfl, hn2⟩ := r6.formL
  obtain ⟨A4, n4, c4, rfl, hn4⟩ := r5.formL
  go_wp2_with fail
  refine (rcmpV r6 r5 (by decide) (by decide)).mono ?_
  rintro e w5 ⟨rfl, rfl⟩
  have tcc := tc.out w4
  go_wp2_with fail
  refine (rsubN r5 r6 (by decide) (by decide) _ (by first | omega | (rw [wrap64_in (by omega) (by omega)] <;> omega)) hle).mono ?_
  rintro e w5 ⟨v5, b5, r7, rfl, hb5⟩
  have r8 := r7.mono (show 2200 + 2200 ≤ 5000 by decide)
  have HB5 := Lib.hid (bel_trans HB4.out hb5)
  clear hb5 HB4 r7 r6 r5 tcc
  go_wp2_with fail
  refine (kneg_any b hb _).mono ?_
  rintro e w6 ⟨rfl, rfl⟩
  go_wp2_with fail
  refine (rlenV r8 (by decide)).mono ?_
  rintro e w6 ⟨rfl, rfl⟩
  have lz := HLZ.out
  go_wp2_with fail
  refine (CR.out _ _ r8).mono ?_
  rintro e w7 ⟨rfl, hb7⟩
  go_wp2_with fail
  go_ret2
  exact ⟨rfl, bel_trans HB5.out hb7⟩
set_option maxHeartbeats 8000000 in
theorem kadd_nz_same0 (a b md : Int) (ha : Word a) (hb : Word b) (h1 : fC a < 3) (h2 : fC b < 3) (hx : fX a ≠ 0) (hy : fX b = 0) (hs : fS a = fS b) (hS : (2 ^ (0 : Int).toNat * fX a) + (2 ^ (0 : Int).toNat * fX b) = 0) (w : World) :
    Calls Try.prog 12 #[.int .u64 a, .int .u64 b, .int .u8 md] w (RetF (saF md a b) (saG md a b) w) := by
  have e1 : saF md a b = smF md a b := by unfold saF; rw [if_neg (by omega), if_neg (fun h => by omega), if_neg (by omega), if_neg (by omega)]
  have e2 : saG md a b = smG md a b := by unfold saG; rw [if_neg (by omega), if_neg (fun h => by omega), if_neg (by omega), if_neg (by omega)]
  rw [e1, e2]
  clear e1 e2
  have na : decide (fC a = 4) = false := decide_eq_false (by omega)
  have nb : decide (fC b = 4) = false := decide_eq_false (by omega)
  have ia : decide (fC a = 3) = false := decide_eq_false (by omega)
  have ib : decide (fC b = 3) = false := decide_eq_false (by omega)
  have SA := Lib.hid (fun w => gsplit_any a ha w)
  have SB := Lib.hid (fun w => gsplit_any b hb w)
  have xa := fX_word a
  have xb := fX_word b
  have ya := fY_bd a
  have yb := fY_bd b
  have HA : fX a * 2 ^ (fY a + 1074).toNat = fMg a := fMg_is ha h1
  have HB : fX b * 2 ^ (fY a + 1074).toNat = fMg b := over_nil hb h2 hy
  have l0 : -1074 ≤ fY a ∧ fY a ≤ 972 ∧ fY a ≤ fY a ∧ fY a ≤ fY a := by omega
  have KA := over_low (d := (0 : Int)) (by omega) HA l0.2.2.1 l0.1
  have KB := over_low (d := (0 : Int)) (by omega) HB l0.2.2.2 l0.1
  have dA : 0 ≤ (0 : Int) ∧ (0 : Int) ≤ 2100 := by omega
  have dB : 0 ≤ (0 : Int) ∧ (0 : Int) ≤ 2100 := by omega
  have pA0 : 0 ≤ 2 ^ (0 : Int).toNat * fX a := Int.mul_nonneg (Int.le_of_lt (pow_pos' _)) xa.1
  have pB0 : 0 ≤ 2 ^ (0 : Int).toNat * fX b := Int.mul_nonneg (Int.le_of_lt (pow_pos' _)) xb.1
  obtain ⟨P, hP⟩ : ∃ P, 2 ^ (0 : Int).toNat * fX a = P := ⟨_, rfl⟩
  obtain ⟨Q, hQ⟩ : ∃ Q, 2 ^ (0 : Int).toNat * fX b = Q := ⟨_, rfl⟩
  rw [hP] at pA0 KA hS
  rw [hQ] at pB0 KB hS
  have hz : zI a b = sv (fS a) ((P + Q) * 2 ^ (fY a + 1074).toNat) := by unfold zI; rw [← hs, sv_sum, Int.add_mul, KA, KB]
  rw [hS] at hz
  obtain ⟨f0, g0⟩ := ref_nil ha hb h1 h2 hz md
  rw [f0, g0]
  rw [if_pos hs]
  clear f0 g0
  have t0 : (fS a == fS b) = true := by cases h : fS a <;> cases h' : fS b <;> rw [h, h'] at hs <;> simp at hs ⊢
  have zx : (fX a == 0) = false := by simpa using hx
  have zy : (fX b == 0) = true := by simpa using hy
  clear hx hy
  have HP := Lib.hid hP
  have HQ := Lib.hid hQ
  have s0 : 0 ≤ P + Q := by omega
  have LZ : (blen (P + Q) == 0) = true := by rw [blen_none s0]; simp; omega
  have HLZ := Lib.hid LZ
  clear h1 h2 HA HB KA KB hz hP hQ hs LZ hS
  go_enter Try.func12, Try.ntmps12
  go_wp2_with fail
  refine (kis_any a 4 ha _).mono ?_
  rw [na]
  rintro e w2 ⟨rfl, rfl⟩
  go_wp2_with fail
  refine (kis_any b 4 hb _).mono ?_
  rw [nb]
  rintro e w2 ⟨rfl, rfl⟩
  go_wp2_with fail
  refine (kis_any a 3 ha _).mono ?_
  rw [ia]
  rintro e w2 ⟨rfl, rfl⟩
  go_wp2_with fail
  refine (kis_any a 3 ha _).mono ?_
  rw [ia]
  rintro e w2 ⟨rfl, rfl⟩
  go_wp2_with fail
  refine (kis_any b 3 hb _).mono ?_
  rw [ib]
  rintro e w2 ⟨rfl, rfl⟩
  go_wp2_with fail
  refine (SA.out _).mono ?_
  rintro e w2 ⟨rfl, rfl⟩
  go_wp2_with fail
  refine (SB.out _).mono ?_
  rintro e w2 ⟨rfl, rfl⟩
  go_wp2_with fail
  refine (kbits_any _ xa _).mono ?_
  rintro e w1 ⟨v1, r1, rfl, hb1⟩
  have HB1 := Lib.hid hb1
  clear hb1
  go_wp2_with fail
  refine (shlV r1.v (by decide) dA.1 (by omega) 2200 (by omega)).mono ?_
  rintro e w2 ⟨v2, r2, rfl, hb2⟩
  rw [HP.out] at r2
  have HB2 := Lib.hid (bel_trans HB1.out hb2)
  clear hb2 HB1 r1
  go_wp2_with fail
  refine (kbits_any _ xb _).mono ?_
  rintro e w3 ⟨v3, r3, rfl, hb3⟩
  have r4 := r2.below hb3
  have HB3 := Lib.hid (bel_trans HB2.out hb3)
  clear hb3 HB2 r2
  go_wp2_with fail
  refine (shlV r3.v (by decide) dB.1 (by omega) 2200 (by omega)).mono ?_
  rintro e w4 ⟨v4, r5, rfl, hb4⟩
  rw [HQ.out] at r5
  have r6 := r4.below hb4
  have HB4 := Lib.hid (bel_trans HB3.out hb4)
  clear hb4 HB3 r4 r3
  go_wp2_with fail
  refine (kneg_any a ha _).mono ?_
  rintro e w5 ⟨rfl, rfl⟩
  go_wp2_with fail
  refine (kneg_any a ha _).mono ?_
  rintro e w5 ⟨rfl, rfl⟩
  go_wp2_with fail
  refine (kneg_any b hb _).mono ?_
  rintro e w5 ⟨rfl, rfl⟩
  go_wp2_with fail
  refine (raddV r6 r5 (by decide) (by decide)).mono ?_
  rintro e w5 ⟨v5, r7, rfl, hb5⟩
  have r8 := r7.mono (show 2200 + 2200 + 1 ≤ 5000 by decide)
  have HB5 := Lib.hid (bel_trans HB4.out hb5)
  clear hb5 HB4 r7 r6 r5
  go_wp2_with fail
  refine (rlenV r8 (by decide)).mono ?_
  rintro e w6 ⟨rfl, rfl⟩
  have lz := HLZ.out
  go_wp2_with fail
  refine (kneg_any a ha _).mono ?_
  rintro e w7 ⟨rfl, rfl⟩
  go_wp2_with fail
  refine (kneg_any b hb _).mono ?_
  rintro e w7 ⟨rfl, rfl⟩
  go_wp2_with fail
  refine (kneg_any a ha _).mono ?_
  rintro e w7 ⟨rfl, rfl⟩
  go_wp2_with fail
  refine (kzero_any _ _).mono ?_
  rintro e w7 ⟨rfl, rfl⟩
  go_wp2_with fail
  go_ret2
  exact ⟨rfl, HB5.out⟩
set_option maxHeartbeats 8000000 in
theorem kadd_nz_same1 (a b md : Int) (ha : Word a) (hb : Word b) (h1 : fC a < 3) (h2 : fC b < 3) (hx : fX a ≠ 0) (hy : fX b = 0) (hs : fS a = fS b) (hS : (2 ^ (0 : Int).toNat * fX a) + (2 ^ (0 : Int).toNat * fX b) ≠ 0) (w : World) :
    Calls Try.prog 12 #[.int .u64 a, .int .u64 b, .int .u8 md] w (RetF (saF md a b) (saG md a b) w) := by
  have e1 : saF md a b = smF md a b := by unfold saF; rw [if_neg (by omega), if_neg (fun h => by omega), if_neg (by omega), if_neg (by omega)]
  have e2 : saG md a b = smG md a b := by unfold saG; rw [if_neg (by omega), if_neg (fun h => by omega), if_neg (by omega), if_neg (by omega)]
  rw [e1, e2]
  clear e1 e2
  have na : decide (fC a = 4) = false := decide_eq_false (by omega)
  have nb : decide (fC b = 4) = false := decide_eq_false (by omega)
  have ia : decide (fC a = 3) = false := decide_eq_false (by omega)
  have ib : decide (fC b = 3) = false := decide_eq_false (by omega)
  have SA := Lib.hid (fun w => gsplit_any a ha w)
  have SB := Lib.hid (fun w => gsplit_any b hb w)
  have xa := fX_word a
  have xb := fX_word b
  have ya := fY_bd a
  have yb := fY_bd b
  have HA : fX a * 2 ^ (fY a + 1074).toNat = fMg a := fMg_is ha h1
  have HB : fX b * 2 ^ (fY a + 1074).toNat = fMg b := over_nil hb h2 hy
  have l0 : -1074 ≤ fY a ∧ fY a ≤ 972 ∧ fY a ≤ fY a ∧ fY a ≤ fY a := by omega
  have KA := over_low (d := (0 : Int)) (by omega) HA l0.2.2.1 l0.1
  have KB := over_low (d := (0 : Int)) (by omega) HB l0.2.2.2 l0.1
  have dA : 0 ≤ (0 : Int) ∧ (0 : Int) ≤ 2100 := by omega
  have dB : 0 ≤ (0 : Int) ∧ (0 : Int) ≤ 2100 := by omega
  have pA0 : 0 ≤ 2 ^ (0 : Int).toNat * fX a := Int.mul_nonneg (Int.le_of_lt (pow_pos' _)) xa.1
  have pB0 : 0 ≤ 2 ^ (0 : Int).toNat * fX b := Int.mul_nonneg (Int.le_of_lt (pow_pos' _)) xb.1
  obtain ⟨P, hP⟩ : ∃ P, 2 ^ (0 : Int).toNat * fX a = P := ⟨_, rfl⟩
  obtain ⟨Q, hQ⟩ : ∃ Q, 2 ^ (0 : Int).toNat * fX b = Q := ⟨_, rfl⟩
  rw [hP] at pA0 KA hS
  rw [hQ] at pB0 KB hS
  have hz : zI a b = sv (fS a) ((P + Q) * 2 ^ (fY a + 1074).toNat) := by unfold zI; rw [← hs, sv_sum, Int.add_mul, KA, KB]
  have pS : 0 < P + Q := by omega
  obtain ⟨f0, g0⟩ := ref_round ha hb h1 h2 hz pS l0.1 l0.2.1 md
  have CR : Hid (∀ (w : World) (v : Value), RowV w v (P + Q) 5000 → Calls Try.prog 43 #[.bool (fS a), v, .int .i64 (fY a), .bool false, .int .u8 md] w (RetF (smF md a b) (smG md a b) w)) := by
    intro w v hv
    have R := hround_pos hv (by decide) pS (fS a) (fY a) false md
    rw [f0, g0] at R
    exact R
  clear f0 g0 pS
  have t0 : (fS a == fS b) = true := by cases h : fS a <;> cases h' : fS b <;> rw [h, h'] at hs <;> simp at hs ⊢
  have zx : (fX a == 0) = false := by simpa using hx
  have zy : (fX b == 0) = true := by simpa using hy
  clear hx hy
  have HP := Lib.hid hP
  have HQ := Lib.hid hQ
  have s0 : 0 ≤ P + Q := by omega
  have LZ : (blen (P + Q) == 0) = false := by rw [blen_none s0]; simp; omega
  have HLZ := Lib.hid LZ
  clear h1 h2 HA HB KA KB hz hP hQ hs LZ hS
  go_enter Try.func12, Try.ntmps12
  go_wp2_with fail
  refine (kis_any a 4 ha _).mono ?_
  rw [na]
  rintro e w2 ⟨rfl, rfl⟩
  go_wp2_with fail
  refine (kis_any b 4 hb _).mono ?_
  rw [nb]
  rintro e w2 ⟨rfl, rfl⟩
  go_wp2_with fail
  refine (kis_any a 3 ha _).mono ?_
  rw [ia]
  rintro e w2 ⟨rfl, rfl⟩
  go_wp2_with fail
  refine (kis_any a 3 ha _).mono ?_
  rw [ia]
  rintro e w2 ⟨rfl, rfl⟩
  go_wp2_with fail
  refine (kis_any b 3 hb _).mono ?_
  rw [ib]
  rintro e w2 ⟨rfl, rfl⟩
  go_wp2_with fail
  refine (SA.out _).mono ?_
  rintro e w2 ⟨rfl, rfl⟩
  go_wp2_with fail
  refine (SB.out _).mono ?_
  rintro e w2 ⟨rfl, rfl⟩
  go_wp2_with fail
  refine (kbits_any _ xa _).mono ?_
  rintro e w1 ⟨v1, r1, rfl, hb1⟩
  have HB1 := Lib.hid hb1
  clear hb1
  go_wp2_with fail
  refine (shlV r1.v (by decide) dA.1 (by omega) 2200 (by omega)).mono ?_
  rintro e w2 ⟨v2, r2, rfl, hb2⟩
  rw [HP.out] at r2
  have HB2 := Lib.hid (bel_trans HB1.out hb2)
  clear hb2 HB1 r1
  go_wp2_with fail
  refine (kbits_any _ xb _).mono ?_
  rintro e w3 ⟨v3, r3, rfl, hb3⟩
  have r4 := r2.below hb3
  have HB3 := Lib.hid (bel_trans HB2.out hb3)
  clear hb3 HB2 r2
  go_wp2_with fail
  refine (shlV r3.v (by decide) dB.1 (by omega) 2200 (by omega)).mono ?_
  rintro e w4 ⟨v4, r5, rfl, hb4⟩
  rw [HQ.out] at r5
  have r6 := r4.below hb4
  have HB4 := Lib.hid (bel_trans HB3.out hb4)
  clear hb4 HB3 r4 r3
  go_wp2_with fail
  refine (kneg_any a ha _).mono ?_
  rintro e w5 ⟨rfl, rfl⟩
  go_wp2_with fail
  refine (kneg_any a ha _).mono ?_
  rintro e w5 ⟨rfl, rfl⟩
  go_wp2_with fail
  refine (kneg_any b hb _).mono ?_
  rintro e w5 ⟨rfl, rfl⟩
  go_wp2_with fail
  refine (raddV r6 r5 (by decide) (by decide)).mono ?_
  rintro e w5 ⟨v5, r7, rfl, hb5⟩
  have r8 := r7.mono (show 2200 + 2200 + 1 ≤ 5000 by decide)
  have HB5 := Lib.hid (bel_trans HB4.out hb5)
  clear hb5 HB4 r7 r6 r5
  go_wp2_with fail
  refine (rlenV r8 (by decide)).mono ?_
  rintro e w6 ⟨rfl, rfl⟩
  have lz := HLZ.out
  go_wp2_with fail
  refine (CR.out _ _ r8).mono ?_
  rintro e w7 ⟨rfl, hb7⟩
  go_wp2_with fail
  go_ret2
  exact ⟨rfl, bel_trans HB5.out hb7⟩
set_option maxHeartbeats 8000000 in
theorem kadd_nz_ge0 (a b md : Int) (ha : Word a) (hb : Word b) (h1 : fC a < 3) (h2 : fC b < 3) (hx : fX a ≠ 0) (hy : fX b = 0) (hs : fS a ≠ fS b) (hc : 2 ^ (0 : Int).toNat * fX b ≤ 2 ^ (0 : Int).toNat * fX a) (hS : (2 ^ (0 : Int).toNat * fX a) - (2 ^ (0 : Int).toNat * fX b) = 0) (w : World) :
    Calls Try.prog 12 #[.int .u64 a, .int .u64 b, .int .u8 md] w (RetF (saF md a b) (saG md a b) w) := by
  have e1 : saF md a b = smF md a b := by unfold saF; rw [if_neg (by omega), if_neg (fun h => by omega), if_neg (by omega), if_neg (by omega)]
  have e2 : saG md a b = smG md a b := by unfold saG; rw [if_neg (by omega), if_neg (fun h => by omega), if_neg (by omega), if_neg (by omega)]
  rw [e1, e2]
  clear e1 e2
  have na : decide (fC a = 4) = false := decide_eq_false (by omega)
  have nb : decide (fC b = 4) = false := decide_eq_false (by omega)
  have ia : decide (fC a = 3) = false := decide_eq_false (by omega)
  have ib : decide (fC b = 3) = false := decide_eq_false (by omega)
  have SA := Lib.hid (fun w => gsplit_any a ha w)
  have SB := Lib.hid (fun w => gsplit_any b hb w)
  have xa := fX_word a
  have xb := fX_word b
  have ya := fY_bd a
  have yb := fY_bd b
  have HA : fX a * 2 ^ (fY a + 1074).toNat = fMg a := fMg_is ha h1
  have HB : fX b * 2 ^ (fY a + 1074).toNat = fMg b := over_nil hb h2 hy
  have l0 : -1074 ≤ fY a ∧ fY a ≤ 972 ∧ fY a ≤ fY a ∧ fY a ≤ fY a := by omega
  have KA := over_low (d := (0 : Int)) (by omega) HA l0.2.2.1 l0.1
  have KB := over_low (d := (0 : Int)) (by omega) HB l0.2.2.2 l0.1
  have dA : 0 ≤ (0 : Int) ∧ (0 : Int) ≤ 2100 := by omega
  have dB : 0 ≤ (0 : Int) ∧ (0 : Int) ≤ 2100 := by omega
  have pA0 : 0 ≤ 2 ^ (0 : Int).toNat * fX a := Int.mul_nonneg (Int.le_of_lt (pow_pos' _)) xa.1
  have pB0 : 0 ≤ 2 ^ (0 : Int).toNat * fX b := Int.mul_nonneg (Int.le_of_lt (pow_pos' _)) xb.1
  obtain ⟨P, hP⟩ : ∃ P, 2 ^ (0 : Int).toNat * fX a = P := ⟨_, rfl⟩
  obtain ⟨Q, hQ⟩ : ∃ Q, 2 ^ (0 : Int).toNat * fX b = Q := ⟨_, rfl⟩
  rw [hP] at pA0 KA hc hS
  rw [hQ] at pB0 KB hc hS
  have hz : zI a b = sv (fS a) ((P - Q) * 2 ^ (fY a + 1074).toNat) := by unfold zI; rw [(sv_dif hs _ _).1, Int.sub_mul, KA, KB]
  rw [hS] at hz
  obtain ⟨f0, g0⟩ := ref_nil ha hb h1 h2 hz md
  rw [f0, g0]
  rw [if_neg hs]
  clear f0 g0
  have t0 : (fS a == fS b) = false := by cases h : fS a <;> cases h' : fS b <;> rw [h, h'] at hs <;> simp at hs ⊢
  have zx : (fX a == 0) = false := by simpa using hx
  have zy : (fX b == 0) = true := by simpa using hy
  clear hx hy
  have HP := Lib.hid hP
  have HQ := Lib.hid hQ
  have s0 : 0 ≤ P - Q := by omega
  have LZ : (blen (P - Q) == 0) = true := by rw [blen_none s0]; simp; omega
  have HLZ := Lib.hid LZ
  have tc : Hid (∀ w : World, decide (0 ≤ cmpI P Q) = true) := fun _ => by rw [cmp_at]; exact decide_eq_true hc
  have hle := hc
  clear h1 h2 HA HB KA KB hz hP hQ hs LZ hS
  clear hc
  go_enter Try.func12, Try.ntmps12
  go_wp2_with fail
  refine (kis_any a 4 ha _).mono ?_
  rw [na]
  rintro e w2 ⟨rfl, rfl⟩
  go_wp2_with fail
  refine (kis_any b 4 hb _).mono ?_
  rw [nb]
  rintro e w2 ⟨rfl, rfl⟩
  go_wp2_with fail
  refine (kis_any a 3 ha _).mono ?_
  rw [ia]
  rintro e w2 ⟨rfl, rfl⟩
  go_wp2_with fail
  refine (kis_any a 3 ha _).mono ?_
  rw [ia]
  rintro e w2 ⟨rfl, rfl⟩
  go_wp2_with fail
  refine (kis_any b 3 hb _).mono ?_
  rw [ib]
  rintro e w2 ⟨rfl, rfl⟩
  go_wp2_with fail
  refine (SA.out _).mono ?_
  rintro e w2 ⟨rfl, rfl⟩
  go_wp2_with fail
  refine (SB.out _).mono ?_
  rintro e w2 ⟨rfl, rfl⟩
  go_wp2_with fail
  refine (kbits_any _ xa _).mono ?_
  rintro e w1 ⟨v1, r1, rfl, hb1⟩
  have HB1 := Lib.hid hb1
  clear hb1
  go_wp2_with fail
  refine (shlV r1.v (by decide) dA.1 (by omega) 2200 (by omega)).mono ?_
  rintro e w2 ⟨v2, r2, rfl, hb2⟩
  rw [HP.out] at r2
  have HB2 := Lib.hid (bel_trans HB1.out hb2)
  clear hb2 HB1 r1
  go_wp2_with fail
  refine (kbits_any _ xb _).mono ?_
  rintro e w3 ⟨v3, r3, rfl, hb3⟩
  have r4 := r2.below hb3
  have HB3 := Lib.hid (bel_trans HB2.out hb3)
  clear hb3 HB2 r2
  go_wp2_with fail
  refine (shlV r3.v (by decide) dB.1 (by omega) 2200 (by omega)).mono ?_
  rintro e w4 ⟨v4, r5, rfl, hb4⟩
  rw [HQ.out] at r5
  have r6 := r4.below hb4
  have HB4 := Lib.hid (bel_trans HB3.out hb4)
  clear hb4 HB3 r4 r3
  go_wp2_with fail
  refine (kneg_any a ha _).mono ?_
  rintro e w5 ⟨rfl, rfl⟩
  go_wp2_with fail
  refine (kneg_any a ha _).mono ?_
  rintro e w5 ⟨rfl, rfl⟩
  go_wp2_with fail
  refine (kneg_any b hb _).mono ?_
  rintro e w5 ⟨rfl, rfl⟩
  obtain ⟨A2, n2, c2, rfl, hn2⟩ := r6.formL
  obtain ⟨A4, n4, c4, rfl, hn4⟩ := r5.formL
  go_wp2_with fail
  refine (rcmpV r6 r5 (by decide) (by decide)).mono ?_
  rintro e w5 ⟨rfl, rfl⟩
  have tcc := tc.out w4
  go_wp2_with fail
  refine (rsubN r6 r5 (by decide) (by decide) _ (by first | omega | (rw [wrap64_in (by omega) (by omega)] <;> omega)) hle).mono ?_
  rintro e w5 ⟨v5, b5, r7, rfl, hb5⟩
  have r8 := r7.mono (show 2200 + 2200 ≤ 5000 by decide)
  have HB5 := Lib.hid (bel_trans HB4.out hb5)
  clear hb5 HB4 r7 r6 r5 tcc
  go_wp2_with fail
  refine (rlenV r8 (by decide)).mono ?_
  rintro e w6 ⟨rfl, rfl⟩
  have lz := HLZ.out
  go_wp2_with fail
  refine (kneg_any a ha _).mono ?_
  rintro e w7 ⟨rfl, rfl⟩
  go_wp2_with fail
  refine (kneg_any b hb _).mono ?_
  rintro e w7 ⟨rfl, rfl⟩
  go_wp2_with fail
  refine (kzero_any _ _).mono ?_
  rw [is_two]
  rintro e w7 ⟨rfl, rfl⟩
  go_wp2_with fail
  go_ret2
  exact ⟨rfl, HB5.out⟩
set_option maxHeartbeats 8000000 in
theorem kadd_nz_ge1 (a b md : Int) (ha : Word a) (hb : Word b) (h1 : fC a < 3) (h2 : fC b < 3) (hx : fX a ≠ 0) (hy : fX b = 0) (hs : fS a ≠ fS b) (hc : 2 ^ (0 : Int).toNat * fX b ≤ 2 ^ (0 : Int).toNat * fX a) (hS : (2 ^ (0 : Int).toNat * fX a) - (2 ^ (0 : Int).toNat * fX b) ≠ 0) (w : World) :
    Calls Try.prog 12 #[.int .u64 a, .int .u64 b, .int .u8 md] w (RetF (saF md a b) (saG md a b) w) := by
  have e1 : saF md a b = smF md a b := by unfold saF; rw [if_neg (by omega), if_neg (fun h => by omega), if_neg (by omega), if_neg (by omega)]
  have e2 : saG md a b = smG md a b := by unfold saG; rw [if_neg (by omega), if_neg (fun h => by omega), if_neg (by omega), if_neg (by omega)]
  rw [e1, e2]
  clear e1 e2
  have na : decide (fC a = 4) = false := decide_eq_false (by omega)
  have nb : decide (fC b = 4) = false := decide_eq_false (by omega)
  have ia : decide (fC a = 3) = false := decide_eq_false (by omega)
  have ib : decide (fC b = 3) = false := decide_eq_false (by omega)
  have SA := Lib.hid (fun w => gsplit_any a ha w)
  have SB := Lib.hid (fun w => gsplit_any b hb w)
  have xa := fX_word a
  have xb := fX_word b
  have ya := fY_bd a
  have yb := fY_bd b
  have HA : fX a * 2 ^ (fY a + 1074).toNat = fMg a := fMg_is ha h1
  have HB : fX b * 2 ^ (fY a + 1074).toNat = fMg b := over_nil hb h2 hy
  have l0 : -1074 ≤ fY a ∧ fY a ≤ 972 ∧ fY a ≤ fY a ∧ fY a ≤ fY a := by omega
  have KA := over_low (d := (0 : Int)) (by omega) HA l0.2.2.1 l0.1
  have KB := over_low (d := (0 : Int)) (by omega) HB l0.2.2.2 l0.1
  have dA : 0 ≤ (0 : Int) ∧ (0 : Int) ≤ 2100 := by omega
  have dB : 0 ≤ (0 : Int) ∧ (0 : Int) ≤ 2100 := by omega
  have pA0 : 0 ≤ 2 ^ (0 : Int).toNat * fX a := Int.mul_nonneg (Int.le_of_lt (pow_pos' _)) xa.1
  have pB0 : 0 ≤ 2 ^ (0 : Int).toNat * fX b := Int.mul_nonneg (Int.le_of_lt (pow_pos' _)) xb.1
  obtain ⟨P, hP⟩ : ∃ P, 2 ^ (0 : Int).toNat * fX a = P := ⟨_, rfl⟩
  obtain ⟨Q, hQ⟩ : ∃ Q, 2 ^ (0 : Int).toNat * fX b = Q := ⟨_, rfl⟩
  rw [hP] at pA0 KA hc hS
  rw [hQ] at pB0 KB hc hS
  have hz : zI a b = sv (fS a) ((P - Q) * 2 ^ (fY a + 1074).toNat) := by unfold zI; rw [(sv_dif hs _ _).1, Int.sub_mul, KA, KB]
  have pS : 0 < P - Q := by omega
  obtain ⟨f0, g0⟩ := ref_round ha hb h1 h2 hz pS l0.1 l0.2.1 md
  have CR : Hid (∀ (w : World) (v : Value), RowV w v (P - Q) 5000 → Calls Try.prog 43 #[.bool (fS a), v, .int .i64 (fY a), .bool false, .int .u8 md] w (RetF (smF md a b) (smG md a b) w)) := by
    intro w v hv
    have R := hround_pos hv (by decide) pS (fS a) (fY a) false md
    rw [f0, g0] at R
    exact R
  clear f0 g0 pS
  have t0 : (fS a == fS b) = false := by cases h : fS a <;> cases h' : fS b <;> rw [h, h'] at hs <;> simp at hs ⊢
  have zx : (fX a == 0) = false := by simpa using hx
  have zy : (fX b == 0) = true := by simpa using hy
  clear hx hy
  have HP := Lib.hid hP
  have HQ := Lib.hid hQ
  have s0 : 0 ≤ P - Q := by omega
  have LZ : (blen (P - Q) == 0) = false := by rw [blen_none s0]; simp; omega
  have HLZ := Lib.hid LZ
  have tc : Hid (∀ w : World, decide (0 ≤ cmpI P Q) = true) := fun _ => by rw [cmp_at]; exact decide_eq_true hc
  have hle := hc
  clear h1 h2 HA HB KA KB hz hP hQ hs LZ hS
  clear hc
  go_enter Try.func12, Try.ntmps12
  go_wp2_with fail
  refine (kis_any a 4 ha _).mono ?_
  rw [na]
  rintro e w2 ⟨rfl, rfl⟩
  go_wp2_with fail
  refine (kis_any b 4 hb _).mono ?_
  rw [nb]
  rintro e w2 ⟨rfl, rfl⟩
  go_wp2_with fail
  refine (kis_any a 3 ha _).mono ?_
  rw [ia]
  rintro e w2 ⟨rfl, rfl⟩
  go_wp2_with fail
  refine (kis_any a 3 ha _).mono ?_
  rw [ia]
  rintro e w2 ⟨rfl, rfl⟩
  go_wp2_with fail
  refine (kis_any b 3 hb _).mono ?_
  rw [ib]
  rintro e w2 ⟨rfl, rfl⟩
  go_wp2_with fail
  refine (SA.out _).mono ?_
  rintro e w2 ⟨rfl, rfl⟩
  go_wp2_with fail
  refine (SB.out _).mono ?_
  rintro e w2 ⟨rfl, rfl⟩
  go_wp2_with fail
  refine (kbits_any _ xa _).mono ?_
  rintro e w1 ⟨v1, r1, rfl, hb1⟩
  have HB1 := Lib.hid hb1
  clear hb1
  go_wp2_with fail
  refine (shlV r1.v (by decide) dA.1 (by omega) 2200 (by omega)).mono ?_
  rintro e w2 ⟨v2, r2, rfl, hb2⟩
  rw [HP.out] at r2
  have HB2 := Lib.hid (bel_trans HB1.out hb2)
  clear hb2 HB1 r1
  go_wp2_with fail
  refine (kbits_any _ xb _).mono ?_
  rintro e w3 ⟨v3, r3, rfl, hb3⟩
  have r4 := r2.below hb3
  have HB3 := Lib.hid (bel_trans HB2.out hb3)
  clear hb3 HB2 r2
  go_wp2_with fail
  refine (shlV r3.v (by decide) dB.1 (by omega) 2200 (by omega)).mono ?_
  rintro e w4 ⟨v4, r5, rfl, hb4⟩
  rw [HQ.out] at r5
  have r6 := r4.below hb4
  have HB4 := Lib.hid (bel_trans HB3.out hb4)
  clear hb4 HB3 r4 r3
  go_wp2_with fail
  refine (kneg_any a ha _).mono ?_
  rintro e w5 ⟨rfl, rfl⟩
  go_wp2_with fail
  refine (kneg_any a ha _).mono ?_
  rintro e w5 ⟨rfl, rfl⟩
  go_wp2_with fail
  refine (kneg_any b hb _).mono ?_
  rintro e w5 ⟨rfl, rfl⟩
  obtain ⟨A2, n2, c2, rfl, hn2⟩ := r6.formL
  obtain ⟨A4, n4, c4, rfl, hn4⟩ := r5.formL
  go_wp2_with fail
  refine (rcmpV r6 r5 (by decide) (by decide)).mono ?_
  rintro e w5 ⟨rfl, rfl⟩
  have tcc := tc.out w4
  go_wp2_with fail
  refine (rsubN r6 r5 (by decide) (by decide) _ (by first | omega | (rw [wrap64_in (by omega) (by omega)] <;> omega)) hle).mono ?_
  rintro e w5 ⟨v5, b5, r7, rfl, hb5⟩
  have r8 := r7.mono (show 2200 + 2200 ≤ 5000 by decide)
  have HB5 := Lib.hid (bel_trans HB4.out hb5)
  clear hb5 HB4 r7 r6 r5 tcc
  go_wp2_with fail
  refine (rlenV r8 (by decide)).mono ?_
  rintro e w6 ⟨rfl, rfl⟩
  have lz := HLZ.out
  go_wp2_with fail
  refine (CR.out _ _ r8).mono ?_
  rintro e w7 ⟨rfl, hb7⟩
  go_wp2_with fail
  go_ret2
  exact ⟨rfl, bel_trans HB5.out hb7⟩
set_option maxHeartbeats 8000000 in
theorem kadd_nz_lt (a b md : Int) (ha : Word a) (hb : Word b) (h1 : fC a < 3) (h2 : fC b < 3) (hx : fX a ≠ 0) (hy : fX b = 0) (hs : fS a ≠ fS b) (hc : 2 ^ (0 : Int).toNat * fX a < 2 ^ (0 : Int).toNat * fX b) (w : World) :
    Calls Try.prog 12 #[.int .u64 a, .int .u64 b, .int .u8 md] w (RetF (saF md a b) (saG md a b) w) := by
  have e1 : saF md a b = smF md a b := by unfold saF; rw [if_neg (by omega), if_neg (fun h => by omega), if_neg (by omega), if_neg (by omega)]
  have e2 : saG md a b = smG md a b := by unfold saG; rw [if_neg (by omega), if_neg (fun h => by omega), if_neg (by omega), if_neg (by omega)]
  rw [e1, e2]
  clear e1 e2
  have na : decide (fC a = 4) = false := decide_eq_false (by omega)
  have nb : decide (fC b = 4) = false := decide_eq_false (by omega)
  have ia : decide (fC a = 3) = false := decide_eq_false (by omega)
  have ib : decide (fC b = 3) = false := decide_eq_false (by omega)
  have SA := Lib.hid (fun w => gsplit_any a ha w)
  have SB := Lib.hid (fun w => gsplit_any b hb w)
  have xa := fX_word a
  have xb := fX_word b
  have ya := fY_bd a
  have yb := fY_bd b
  have HA : fX a * 2 ^ (fY a + 1074).toNat = fMg a := fMg_is ha h1
  have HB : fX b * 2 ^ (fY a + 1074).toNat = fMg b := over_nil hb h2 hy
  have l0 : -1074 ≤ fY a ∧ fY a ≤ 972 ∧ fY a ≤ fY a ∧ fY a ≤ fY a := by omega
  have KA := over_low (d := (0 : Int)) (by omega) HA l0.2.2.1 l0.1
  have KB := over_low (d := (0 : Int)) (by omega) HB l0.2.2.2 l0.1
  have dA : 0 ≤ (0 : Int) ∧ (0 : Int) ≤ 2100 := by omega
  have dB : 0 ≤ (0 : Int) ∧ (0 : Int) ≤ 2100 := by omega
  have pA0 : 0 ≤ 2 ^ (0 : Int).toNat * fX a := Int.mul_nonneg (Int.le_of_lt (pow_pos' _)) xa.1
  have pB0 : 0 ≤ 2 ^ (0 : Int).toNat * fX b := Int.mul_nonneg (Int.le_of_lt (pow_pos' _)) xb.1
  obtain ⟨P, hP⟩ : ∃ P, 2 ^ (0 : Int).toNat * fX a = P := ⟨_, rfl⟩
  obtain ⟨Q, hQ⟩ : ∃ Q, 2 ^ (0 : Int).toNat * fX b = Q := ⟨_, rfl⟩
  rw [hP] at pA0 KA hc
  rw [hQ] at pB0 KB hc
  have hz : zI a b = sv (fS b) ((Q - P) * 2 ^ (fY a + 1074).toNat) := by unfold zI; rw [(sv_dif hs _ _).2, Int.sub_mul, KA, KB]
  have pS : 0 < Q - P := by omega
  obtain ⟨f0, g0⟩ := ref_round ha hb h1 h2 hz pS l0.1 l0.2.1 md
  have CR : Hid (∀ (w : World) (v : Value), RowV w v (Q - P) 5000 → Calls Try.prog 43 #[.bool (fS b), v, .int .i64 (fY a), .bool false, .int .u8 md] w (RetF (smF md a b) (smG md a b) w)) := by
    intro w v hv
    have R := hround_pos hv (by decide) pS (fS b) (fY a) false md
    rw [f0, g0] at R
    exact R
  clear f0 g0 pS
  have t0 : (fS a == fS b) = false := by cases h : fS a <;> cases h' : fS b <;> rw [h, h'] at hs <;> simp at hs ⊢
  have zx : (fX a == 0) = false := by simpa using hx
  have zy : (fX b == 0) = true := by simpa using hy
  clear hx hy
  have HP := Lib.hid hP
  have HQ := Lib.hid hQ
  have s0 : 0 ≤ Q - P := by omega
  have LZ : (blen (Q - P) == 0) = false := by rw [blen_none s0]; simp; omega
  have HLZ := Lib.hid LZ
  have tc : Hid (∀ w : World, decide (0 ≤ cmpI P Q) = false) := fun _ => by rw [cmp_at]; exact decide_eq_false (by omega)
  have hle : P ≤ Q := by omega
  clear h1 h2 HA HB KA KB hz hP hQ hs LZ
  clear hc
  go_enter Try.func12, Try.ntmps12
  go_wp2_with fail
  refine (kis_any a 4 ha _).mono ?_
  rw [na]
  rintro e w2 ⟨rfl, rfl⟩
  go_wp2_with fail
  refine (kis_any b 4 hb _).mono ?_
  rw [nb]
  rintro e w2 ⟨rfl, rfl⟩
  go_wp2_with fail
  refine (kis_any a 3 ha _).mono ?_
  rw [ia]
  rintro e w2 ⟨rfl, rfl⟩
  go_wp2_with fail
  refine (kis_any a 3 ha _).mono ?_
  rw [ia]
  rintro e w2 ⟨rfl, rfl⟩
  go_wp2_with fail
  refine (kis_any b 3 hb _).mono ?_
  rw [ib]
  rintro e w2 ⟨rfl, rfl⟩
  go_wp2_with fail
  refine (SA.out _).mono ?_
  rintro e w2 ⟨rfl, rfl⟩
  go_wp2_with fail
  refine (SB.out _).mono ?_
  rintro e w2 ⟨rfl, rfl⟩
  go_wp2_with fail
  refine (kbits_any _ xa _).mono ?_
  rintro e w1 ⟨v1, r1, rfl, hb1⟩
  have HB1 := Lib.hid hb1
  clear hb1
  go_wp2_with fail
  refine (shlV r1.v (by decide) dA.1 (by omega) 2200 (by omega)).mono ?_
  rintro e w2 ⟨v2, r2, rfl, hb2⟩
  rw [HP.out] at r2
  have HB2 := Lib.hid (bel_trans HB1.out hb2)
  clear hb2 HB1 r1
  go_wp2_with fail
  refine (kbits_any _ xb _).mono ?_
  rintro e w3 ⟨v3, r3, rfl, hb3⟩
  have r4 := r2.below hb3
  have HB3 := Lib.hid (bel_trans HB2.out hb3)
  clear hb3 HB2 r2
  go_wp2_with fail
  refine (shlV r3.v (by decide) dB.1 (by omega) 2200 (by omega)).mono ?_
  rintro e w4 ⟨v4, r5, rfl, hb4⟩
  rw [HQ.out] at r5
  have r6 := r4.below hb4
  have HB4 := Lib.hid (bel_trans HB3.out hb4)
  clear hb4 HB3 r4 r3
  go_wp2_with fail
  refine (kneg_any a ha _).mono ?_
  rintro e w5 ⟨rfl, rfl⟩
  go_wp2_with fail
  refine (kneg_any a ha _).mono ?_
  rintro e w5 ⟨rfl, rfl⟩
  go_wp2_with fail
  refine (kneg_any b hb _).mono ?_
  rintro e w5 ⟨rfl, rfl⟩
  obtain ⟨A2, n2, c2, rfl, hn2⟩ := r6.formL
  obtain ⟨A4, n4, c4, rfl, hn4⟩ := r5.formL
  go_wp2_with fail
  refine (rcmpV r6 r5 (by decide) (by decide)).mono ?_
  rintro e w5 ⟨rfl, rfl⟩
  have tcc := tc.out w4
  go_wp2_with fail
  refine (rsubN r5 r6 (by decide) (by decide) _ (by first | omega | (rw [wrap64_in (by omega) (by omega)] <;> omega)) hle).mono ?_
  rintro e w5 ⟨v5, b5, r7, rfl, hb5⟩
  have r8 := r7.mono (show 2200 + 2200 ≤ 5000 by decide)
  have HB5 := Lib.hid (bel_trans HB4.out hb5)
  clear hb5 HB4 r7 r6 r5 tcc
  go_wp2_with fail
  refine (kneg_any b hb _).mono ?_
  rintro e w6 ⟨rfl, rfl⟩
  go_wp2_with fail
  refine (rlenV r8 (by decide)).mono ?_
  rintro e w6 ⟨rfl, rfl⟩
  have lz := HLZ.out
  go_wp2_with fail
  refine (CR.out _ _ r8).mono ?_
  rintro e w7 ⟨rfl, hb7⟩
  go_wp2_with fail
  go_ret2
  exact ⟨rfl, bel_trans HB5.out hb7⟩
set_option maxHeartbeats 8000000 in
theorem kadd_zn_same0 (a b md : Int) (ha : Word a) (hb : Word b) (h1 : fC a < 3) (h2 : fC b < 3) (hx : fX a = 0) (hy : fX b ≠ 0) (hs : fS a = fS b) (hS : (2 ^ (0 : Int).toNat * fX a) + (2 ^ (0 : Int).toNat * fX b) = 0) (w : World) :
    Calls Try.prog 12 #[.int .u64 a, .int .u64 b, .int .u8 md] w (RetF (saF md a b) (saG md a b) w) := by
  have e1 : saF md a b = smF md a b := by unfold saF; rw [if_neg (by omega), if_neg (fun h => by omega), if_neg (by omega), if_neg (by omega)]
  have e2 : saG md a b = smG md a b := by unfold saG; rw [if_neg (by omega), if_neg (fun h => by omega), if_neg (by omega), if_neg (by omega)]
  rw [e1, e2]
  clear e1 e2
  have na : decide (fC a = 4) = false := decide_eq_false (by omega)
  have nb : decide (fC b = 4) = false := decide_eq_false (by omega)
  have ia : decide (fC a = 3) = false := decide_eq_false (by omega)
  have ib : decide (fC b = 3) = false := decide_eq_false (by omega)
  have SA := Lib.hid (fun w => gsplit_any a ha w)
  have SB := Lib.hid (fun w => gsplit_any b hb w)
  have xa := fX_word a
  have xb := fX_word b
  have ya := fY_bd a
  have yb := fY_bd b
  have HA : fX a * 2 ^ (fY b + 1074).toNat = fMg a := over_nil ha h1 hx
  have HB : fX b * 2 ^ (fY b + 1074).toNat = fMg b := fMg_is hb h2
  have l0 : -1074 ≤ fY b ∧ fY b ≤ 972 ∧ fY b ≤ fY b ∧ fY b ≤ fY b := by omega
  have KA := over_low (d := (0 : Int)) (by omega) HA l0.2.2.1 l0.1
  have KB := over_low (d := (0 : Int)) (by omega) HB l0.2.2.2 l0.1
  have dA : 0 ≤ (0 : Int) ∧ (0 : Int) ≤ 2100 := by omega
  have dB : 0 ≤ (0 : Int) ∧ (0 : Int) ≤ 2100 := by omega
  have pA0 : 0 ≤ 2 ^ (0 : Int).toNat * fX a := Int.mul_nonneg (Int.le_of_lt (pow_pos' _)) xa.1
  have pB0 : 0 ≤ 2 ^ (0 : Int).toNat * fX b := Int.mul_nonneg (Int.le_of_lt (pow_pos' _)) xb.1
  obtain ⟨P, hP⟩ : ∃ P, 2 ^ (0 : Int).toNat * fX a = P := ⟨_, rfl⟩
  obtain ⟨Q, hQ⟩ : ∃ Q, 2 ^ (0 : Int).toNat * fX b = Q := ⟨_, rfl⟩
  rw [hP] at pA0 KA hS
  rw [hQ] at pB0 KB hS
  have hz : zI a b = sv (fS a) ((P + Q) * 2 ^ (fY b + 1074).toNat) := by unfold zI; rw [← hs, sv_sum, Int.add_mul, KA, KB]
  rw [hS] at hz
  obtain ⟨f0, g0⟩ := ref_nil ha hb h1 h2 hz md
  rw [f0, g0]
  rw [if_pos hs]
  clear f0 g0
  have t0 : (fS a == fS b) = true := by cases h : fS a <;> cases h' : fS b <;> rw [h, h'] at hs <;> simp at hs ⊢
  have zx : (fX a == 0) = true := by simpa using hx
  have zy : (fX b == 0) = false := by simpa using hy
  clear hx hy
  have HP := Lib.hid hP
  have HQ := Lib.hid hQ
  have s0 : 0 ≤ P + Q := by omega
  have LZ : (blen (P + Q) == 0) = true := by rw [blen_none s0]; simp; omega
  have HLZ := Lib.hid LZ
  clear h1 h2 HA HB KA KB hz hP hQ hs LZ hS
  go_enter Try.func12, Try.ntmps12
  go_wp2_with fail
  refine (kis_any a 4 ha _).mono ?_
  rw [na]
  rintro e w2 ⟨rfl, rfl⟩
  go_wp2_with fail
  refine (kis_any b 4 hb _).mono ?_
  rw [nb]
  rintro e w2 ⟨rfl, rfl⟩
  go_wp2_with fail
  refine (kis_any a 3 ha _).mono ?_
  rw [ia]
  rintro e w2 ⟨rfl, rfl⟩
  go_wp2_with fail
  refine (kis_any a 3 ha _).mono ?_
  rw [ia]
  rintro e w2 ⟨rfl, rfl⟩
  go_wp2_with fail
  refine (kis_any b 3 hb _).mono ?_
  rw [ib]
  rintro e w2 ⟨rfl, rfl⟩
  go_wp2_with fail
  refine (SA.out _).mono ?_
  rintro e w2 ⟨rfl, rfl⟩
  go_wp2_with fail
  refine (SB.out _).mono ?_
  rintro e w2 ⟨rfl, rfl⟩
  go_wp2_with fail
  refine (kbits_any _ xa _).mono ?_
  rintro e w1 ⟨v1, r1, rfl, hb1⟩
  have HB1 := Lib.hid hb1
  clear hb1
  go_wp2_with fail
  refine (shlV r1.v (by decide) dA.1 (by omega) 2200 (by omega)).mono ?_
  rintro e w2 ⟨v2, r2, rfl, hb2⟩
  rw [HP.out] at r2
  have HB2 := Lib.hid (bel_trans HB1.out hb2)
  clear hb2 HB1 r1
  go_wp2_with fail
  refine (kbits_any _ xb _).mono ?_
  rintro e w3 ⟨v3, r3, rfl, hb3⟩
  have r4 := r2.below hb3
  have HB3 := Lib.hid (bel_trans HB2.out hb3)
  clear hb3 HB2 r2
  go_wp2_with fail
  refine (shlV r3.v (by decide) dB.1 (by omega) 2200 (by omega)).mono ?_
  rintro e w4 ⟨v4, r5, rfl, hb4⟩
  rw [HQ.out] at r5
  have r6 := r4.below hb4
  have HB4 := Lib.hid (bel_trans HB3.out hb4)
  clear hb4 HB3 r4 r3
  go_wp2_with fail
  refine (kneg_any a ha _).mono ?_
  rintro e w5 ⟨rfl, rfl⟩
  go_wp2_with fail
  refine (kneg_any a ha _).mono ?_
  rintro e w5 ⟨rfl, rfl⟩
  go_wp2_with fail
  refine (kneg_any b hb _).mono ?_
  rintro e w5 ⟨rfl, rfl⟩
  go_wp2_with fail
  refine (raddV r6 r5 (by decide) (by decide)).mono ?_
  rintro e w5 ⟨v5, r7, rfl, hb5⟩
  have r8 := r7.mono (show 2200 + 2200 + 1 ≤ 5000 by decide)
  have HB5 := Lib.hid (bel_trans HB4.out hb5)
  clear hb5 HB4 r7 r6 r5
  go_wp2_with fail
  refine (rlenV r8 (by decide)).mono ?_
  rintro e w6 ⟨rfl, rfl⟩
  have lz := HLZ.out
  go_wp2_with fail
  refine (kneg_any a ha _).mono ?_
  rintro e w7 ⟨rfl, rfl⟩
  go_wp2_with fail
  refine (kneg_any b hb _).mono ?_
  rintro e w7 ⟨rfl, rfl⟩
  go_wp2_with fail
  refine (kneg_any a ha _).mono ?_
  rintro e w7 ⟨rfl, rfl⟩
  go_wp2_with fail
  refine (kzero_any _ _).mono ?_
  rintro e w7 ⟨rfl, rfl⟩
  go_wp2_with fail
  go_ret2
  exact ⟨rfl, HB5.out⟩
set_option maxHeartbeats 8000000 in
theorem kadd_zn_same1 (a b md : Int) (ha : Word a) (hb : Word b) (h1 : fC a < 3) (h2 : fC b < 3) (hx : fX a = 0) (hy : fX b ≠ 0) (hs : fS a = fS b) (hS : (2 ^ (0 : Int).toNat * fX a) + (2 ^ (0 : Int).toNat * fX b) ≠ 0) (w : World) :
    Calls Try.prog 12 #[.int .u64 a, .int .u64 b, .int .u8 md] w (RetF (saF md a b) (saG md a b) w) := by
  have e1 : saF md a b = smF md a b := by unfold saF; rw [if_neg (by omega), if_neg (fun h => by omega), if_neg (by omega), if_neg (by omega)]
  have e2 : saG md a b = smG md a b := by unfold saG; rw [if_neg (by omega), if_neg (fun h => by omega), if_neg (by omega), if_neg (by omega)]
  rw [e1, e2]
  clear e1 e2
  have na : decide (fC a = 4) = false := decide_eq_false (by omega)
  have nb : decide (fC b = 4) = false := decide_eq_false (by omega)
  have ia : decide (fC a = 3) = false := decide_eq_false (by omega)
  have ib : decide (fC b = 3) = false := decide_eq_false (by omega)
  have SA := Lib.hid (fun w => gsplit_any a ha w)
  have SB := Lib.hid (fun w => gsplit_any b hb w)
  have xa := fX_word a
  have xb := fX_word b
  have ya := fY_bd a
  have yb := fY_bd b
  have HA : fX a * 2 ^ (fY b + 1074).toNat = fMg a := over_nil ha h1 hx
  have HB : fX b * 2 ^ (fY b + 1074).toNat = fMg b := fMg_is hb h2
  have l0 : -1074 ≤ fY b ∧ fY b ≤ 972 ∧ fY b ≤ fY b ∧ fY b ≤ fY b := by omega
  have KA := over_low (d := (0 : Int)) (by omega) HA l0.2.2.1 l0.1
  have KB := over_low (d := (0 : Int)) (by omega) HB l0.2.2.2 l0.1
  have dA : 0 ≤ (0 : Int) ∧ (0 : Int) ≤ 2100 := by omega
  have dB : 0 ≤ (0 : Int) ∧ (0 : Int) ≤ 2100 := by omega
  have pA0 : 0 ≤ 2 ^ (0 : Int).toNat * fX a := Int.mul_nonneg (Int.le_of_lt (pow_pos' _)) xa.1
  have pB0 : 0 ≤ 2 ^ (0 : Int).toNat * fX b := Int.mul_nonneg (Int.le_of_lt (pow_pos' _)) xb.1
  obtain ⟨P, hP⟩ : ∃ P, 2 ^ (0 : Int).toNat * fX a = P := ⟨_, rfl⟩
  obtain ⟨Q, hQ⟩ : ∃ Q, 2 ^ (0 : Int).toNat * fX b = Q := ⟨_, rfl⟩
  rw [hP] at pA0 KA hS
  rw [hQ] at pB0 KB hS
  have hz : zI a b = sv (fS a) ((P + Q) * 2 ^ (fY b + 1074).toNat) := by unfold zI; rw [← hs, sv_sum, Int.add_mul, KA, KB]
  have pS : 0 < P + Q := by omega
  obtain ⟨f0, g0⟩ := ref_round ha hb h1 h2 hz pS l0.1 l0.2.1 md
  have CR : Hid (∀ (w : World) (v : Value), RowV w v (P + Q) 5000 → Calls Try.prog 43 #[.bool (fS a), v, .int .i64 (fY b), .bool false, .int .u8 md] w (RetF (smF md a b) (smG md a b) w)) := by
    intro w v hv
    have R := hround_pos hv (by decide) pS (fS a) (fY b) false md
    rw [f0, g0] at R
    exact R
  clear f0 g0 pS
  have t0 : (fS a == fS b) = true := by cases h : fS a <;> cases h' : fS b <;> rw [h, h'] at hs <;> simp at hs ⊢
  have zx : (fX a == 0) = true := by simpa using hx
  have zy : (fX b == 0) = false := by simpa using hy
  clear hx hy
  have HP := Lib.hid hP
  have HQ := Lib.hid hQ
  have s0 : 0 ≤ P + Q := by omega
  have LZ : (blen (P + Q) == 0) = false := by rw [blen_none s0]; simp; omega
  have HLZ := Lib.hid LZ
  clear h1 h2 HA HB KA KB hz hP hQ hs LZ hS
  go_enter Try.func12, Try.ntmps12
  go_wp2_with fail
  refine (kis_any a 4 ha _).mono ?_
  rw [na]
  rintro e w2 ⟨rfl, rfl⟩
  go_wp2_with fail
  refine (kis_any b 4 hb _).mono ?_
  rw [nb]
  rintro e w2 ⟨rfl, rfl⟩
  go_wp2_with fail
  refine (kis_any a 3 ha _).mono ?_
  rw [ia]
  rintro e w2 ⟨rfl, rfl⟩
  go_wp2_with fail
  refine (kis_any a 3 ha _).mono ?_
  rw [ia]
  rintro e w2 ⟨rfl, rfl⟩
  go_wp2_with fail
  refine (kis_any b 3 hb _).mono ?_
  rw [ib]
  rintro e w2 ⟨rfl, rfl⟩
  go_wp2_with fail
  refine (SA.out _).mono ?_
  rintro e w2 ⟨rfl, rfl⟩
  go_wp2_with fail
  refine (SB.out _).mono ?_
  rintro e w2 ⟨rfl, rfl⟩
  go_wp2_with fail
  refine (kbits_any _ xa _).mono ?_
  rintro e w1 ⟨v1, r1, rfl, hb1⟩
  have HB1 := Lib.hid hb1
  clear hb1
  go_wp2_with fail
  refine (shlV r1.v (by decide) dA.1 (by omega) 2200 (by omega)).mono ?_
  rintro e w2 ⟨v2, r2, rfl, hb2⟩
  rw [HP.out] at r2
  have HB2 := Lib.hid (bel_trans HB1.out hb2)
  clear hb2 HB1 r1
  go_wp2_with fail
  refine (kbits_any _ xb _).mono ?_
  rintro e w3 ⟨v3, r3, rfl, hb3⟩
  have r4 := r2.below hb3
  have HB3 := Lib.hid (bel_trans HB2.out hb3)
  clear hb3 HB2 r2
  go_wp2_with fail
  refine (shlV r3.v (by decide) dB.1 (by omega) 2200 (by omega)).mono ?_
  rintro e w4 ⟨v4, r5, rfl, hb4⟩
  rw [HQ.out] at r5
  have r6 := r4.below hb4
  have HB4 := Lib.hid (bel_trans HB3.out hb4)
  clear hb4 HB3 r4 r3
  go_wp2_with fail
  refine (kneg_any a ha _).mono ?_
  rintro e w5 ⟨rfl, rfl⟩
  go_wp2_with fail
  refine (kneg_any a ha _).mono ?_
  rintro e w5 ⟨rfl, rfl⟩
  go_wp2_with fail
  refine (kneg_any b hb _).mono ?_
  rintro e w5 ⟨rfl, rfl⟩
  go_wp2_with fail
  refine (raddV r6 r5 (by decide) (by decide)).mono ?_
  rintro e w5 ⟨v5, r7, rfl, hb5⟩
  have r8 := r7.mono (show 2200 + 2200 + 1 ≤ 5000 by decide)
  have HB5 := Lib.hid (bel_trans HB4.out hb5)
  clear hb5 HB4 r7 r6 r5
  go_wp2_with fail
  refine (rlenV r8 (by decide)).mono ?_
  rintro e w6 ⟨rfl, rfl⟩
  have lz := HLZ.out
  go_wp2_with fail
  refine (CR.out _ _ r8).mono ?_
  rintro e w7 ⟨rfl, hb7⟩
  go_wp2_with fail
  go_ret2
  exact ⟨rfl, bel_trans HB5.out hb7⟩
set_option maxHeartbeats 8000000 in
theorem kadd_zn_ge0 (a b md : Int) (ha : Word a) (hb : Word b) (h1 : fC a < 3) (h2 : fC b < 3) (hx : fX a = 0) (hy : fX b ≠ 0) (hs : fS a ≠ fS b) (hc : 2 ^ (0 : Int).toNat * fX b ≤ 2 ^ (0 : Int).toNat * fX a) (hS : (2 ^ (0 : Int).toNat * fX a) - (2 ^ (0 : Int).toNat * fX b) = 0) (w : World) :
    Calls Try.prog 12 #[.int .u64 a, .int .u64 b, .int .u8 md] w (RetF (saF md a b) (saG md a b) w) := by
  have e1 : saF md a b = smF md a b := by unfold saF; rw [if_neg (by omega), if_neg (fun h => by omega), if_neg (by omega), if_neg (by omega)]
  have e2 : saG md a b = smG md a b := by unfold saG; rw [if_neg (by omega), if_neg (fun h => by omega), if_neg (by omega), if_neg (by omega)]
  rw [e1, e2]
  clear e1 e2
  have na : decide (fC a = 4) = false := decide_eq_false (by omega)
  have nb : decide (fC b = 4) = false := decide_eq_false (by omega)
  have ia : decide (fC a = 3) = false := decide_eq_false (by omega)
  have ib : decide (fC b = 3) = false := decide_eq_false (by omega)
  have SA := Lib.hid (fun w => gsplit_any a ha w)
  have SB := Lib.hid (fun w => gsplit_any b hb w)
  have xa := fX_word a
  have xb := fX_word b
  have ya := fY_bd a
  have yb := fY_bd b
  have HA : fX a * 2 ^ (fY b + 1074).toNat = fMg a := over_nil ha h1 hx
  have HB : fX b * 2 ^ (fY b + 1074).toNat = fMg b := fMg_is hb h2
  have l0 : -1074 ≤ fY b ∧ fY b ≤ 972 ∧ fY b ≤ fY b ∧ fY b ≤ fY b := by omega
  have KA := over_low (d := (0 : Int)) (by omega) HA l0.2.2.1 l0.1
  have KB := over_low (d := (0 : Int)) (by omega) HB l0.2.2.2 l0.1
  have dA : 0 ≤ (0 : Int) ∧ (0 : Int) ≤ 2100 := by omega
  have dB : 0 ≤ (0 : Int) ∧ (0 : Int) ≤ 2100 := by omega
  have pA0 : 0 ≤ 2 ^ (0 : Int).toNat * fX a := Int.mul_nonneg (Int.le_of_lt (pow_pos' _)) xa.1
  have pB0 : 0 ≤ 2 ^ (0 : Int).toNat * fX b := Int.mul_nonneg (Int.le_of_lt (pow_pos' _)) xb.1
  obtain ⟨P, hP⟩ : ∃ P, 2 ^ (0 : Int).toNat * fX a = P := ⟨_, rfl⟩
  obtain ⟨Q, hQ⟩ : ∃ Q, 2 ^ (0 : Int).toNat * fX b = Q := ⟨_, rfl⟩
  rw [hP] at pA0 KA hc hS
  rw [hQ] at pB0 KB hc hS
  have hz : zI a b = sv (fS a) ((P - Q) * 2 ^ (fY b + 1074).toNat) := by unfold zI; rw [(sv_dif hs _ _).1, Int.sub_mul, KA, KB]
  rw [hS] at hz
  obtain ⟨f0, g0⟩ := ref_nil ha hb h1 h2 hz md
  rw [f0, g0]
  rw [if_neg hs]
  clear f0 g0
  have t0 : (fS a == fS b) = false := by cases h : fS a <;> cases h' : fS b <;> rw [h, h'] at hs <;> simp at hs ⊢
  have zx : (fX a == 0) = true := by simpa using hx
  have zy : (fX b == 0) = false := by simpa using hy
  clear hx hy
  have HP := Lib.hid hP
  have HQ := Lib.hid hQ
  have s0 : 0 ≤ P - Q := by omega
  have LZ : (blen (P - Q) == 0) = true := by rw [blen_none s0]; simp; omega
  have HLZ := Lib.hid LZ
  have tc : Hid (∀ w : World, decide (0 ≤ cmpI P Q) = true) := fun _ => by rw [cmp_at]; exact decide_eq_true hc
  have hle := hc
  clear h1 h2 HA HB KA KB hz hP hQ hs LZ hS
  clear hc
  go_enter Try.func12, Try.ntmps12
  go_wp2_with fail
  refine (kis_any a 4 ha _).mono ?_
  rw [na]
  rintro e w2 ⟨rfl, rfl⟩
  go_wp2_with fail
  refine (kis_any b 4 hb _).mono ?_
  rw [nb]
  rintro e w2 ⟨rfl, rfl⟩
  go_wp2_with fail
  refine (kis_any a 3 ha _).mono ?_
  rw [ia]
  rintro e w2 ⟨rfl, rfl⟩
  go_wp2_with fail
  refine (kis_any a 3 ha _).mono ?_
  rw [ia]
  rintro e w2 ⟨rfl, rfl⟩
  go_wp2_with fail
  refine (kis_any b 3 hb _).mono ?_
  rw [ib]
  rintro e w2 ⟨rfl, rfl⟩
  go_wp2_with fail
  refine (SA.out _).mono ?_
  rintro e w2 ⟨rfl, rfl⟩
  go_wp2_with fail
  refine (SB.out _).mono ?_
  rintro e w2 ⟨rfl, rfl⟩
  go_wp2_with fail
  refine (kbits_any _ xa _).mono ?_
  rintro e w1 ⟨v1, r1, rfl, hb1⟩
  have HB1 := Lib.hid hb1
  clear hb1
  go_wp2_with fail
  refine (shlV r1.v (by decide) dA.1 (by omega) 2200 (by omega)).mono ?_
  rintro e w2 ⟨v2, r2, rfl, hb2⟩
  rw [HP.out] at r2
  have HB2 := Lib.hid (bel_trans HB1.out hb2)
  clear hb2 HB1 r1
  go_wp2_with fail
  refine (kbits_any _ xb _).mono ?_
  rintro e w3 ⟨v3, r3, rfl, hb3⟩
  have r4 := r2.below hb3
  have HB3 := Lib.hid (bel_trans HB2.out hb3)
  clear hb3 HB2 r2
  go_wp2_with fail
  refine (shlV r3.v (by decide) dB.1 (by omega) 2200 (by omega)).mono ?_
  rintro e w4 ⟨v4, r5, rfl, hb4⟩
  rw [HQ.out] at r5
  have r6 := r4.below hb4
  have HB4 := Lib.hid (bel_trans HB3.out hb4)
  clear hb4 HB3 r4 r3
  go_wp2_with fail
  refine (kneg_any a ha _).mono ?_
  rintro e w5 ⟨rfl, rfl⟩
  go_wp2_with fail
  refine (kneg_any a ha _).mono ?_
  rintro e w5 ⟨rfl, rfl⟩
  go_wp2_with fail
  refine (kneg_any b hb _).mono ?_
  rintro e w5 ⟨rfl, rfl⟩
  obtain ⟨A2, n2, c2, rfl, hn2⟩ := r6.formL
  obtain ⟨A4, n4, c4, rfl, hn4⟩ := r5.formL
  go_wp2_with fail
  refine (rcmpV r6 r5 (by decide) (by decide)).mono ?_
  rintro e w5 ⟨rfl, rfl⟩
  have tcc := tc.out w4
  go_wp2_with fail
  refine (rsubN r6 r5 (by decide) (by decide) _ (by first | omega | (rw [wrap64_in (by omega) (by omega)] <;> omega)) hle).mono ?_
  rintro e w5 ⟨v5, b5, r7, rfl, hb5⟩
  have r8 := r7.mono (show 2200 + 2200 ≤ 5000 by decide)
  have HB5 := Lib.hid (bel_trans HB4.out hb5)
  clear hb5 HB4 r7 r6 r5 tcc
  go_wp2_with fail
  refine (rlenV r8 (by decide)).mono ?_
  rintro e w6 ⟨rfl, rfl⟩
  have lz := HLZ.out
  go_wp2_with fail
  refine (kneg_any a ha _).mono ?_
  rintro e w7 ⟨rfl, rfl⟩
  go_wp2_with fail
  refine (kneg_any b hb _).mono ?_
  rintro e w7 ⟨rfl, rfl⟩
  go_wp2_with fail
  refine (kzero_any _ _).mono ?_
  rw [is_two]
  rintro e w7 ⟨rfl, rfl⟩
  go_wp2_with fail
  go_ret2
  exact ⟨rfl, HB5.out⟩
set_option maxHeartbeats 8000000 in
theorem kadd_zn_ge1 (a b md : Int) (ha : Word a) (hb : Word b) (h1 : fC a < 3) (h2 : fC b < 3) (hx : fX a = 0) (hy : fX b ≠ 0) (hs : fS a ≠ fS b) (hc : 2 ^ (0 : Int).toNat * fX b ≤ 2 ^ (0 : Int).toNat * fX a) (hS : (2 ^ (0 : Int).toNat * fX a) - (2 ^ (0 : Int).toNat * fX b) ≠ 0) (w : World) :
    Calls Try.prog 12 #[.int .u64 a, .int .u64 b, .int .u8 md] w (RetF (saF md a b) (saG md a b) w) := by
  have e1 : saF md a b = smF md a b := by unfold saF; rw [if_neg (by omega), if_neg (fun h => by omega), if_neg (by omega), if_neg (by omega)]
  have e2 : saG md a b = smG md a b := by unfold saG; rw [if_neg (by omega), if_neg (fun h => by omega), if_neg (by omega), if_neg (by omega)]
  rw [e1, e2]
  clear e1 e2
  have na : decide (fC a = 4) = false := decide_eq_false (by omega)
  have nb : decide (fC b = 4) = false := decide_eq_false (by omega)
  have ia : decide (fC a = 3) = false := decide_eq_false (by omega)
  have ib : decide (fC b = 3) = false := decide_eq_false (by omega)
  have SA := Lib.hid (fun w => gsplit_any a ha w)
  have SB := Lib.hid (fun w => gsplit_any b hb w)
  have xa := fX_word a
  have xb := fX_word b
  have ya := fY_bd a
  have yb := fY_bd b
  have HA : fX a * 2 ^ (fY b + 1074).toNat = fMg a := over_nil ha h1 hx
  have HB : fX b * 2 ^ (fY b + 1074).toNat = fMg b := fMg_is hb h2
  have l0 : -1074 ≤ fY b ∧ fY b ≤ 972 ∧ fY b ≤ fY b ∧ fY b ≤ fY b := by omega
  have KA := over_low (d := (0 : Int)) (by omega) HA l0.2.2.1 l0.1
  have KB := over_low (d := (0 : Int)) (by omega) HB l0.2.2.2 l0.1
  have dA : 0 ≤ (0 : Int) ∧ (0 : Int) ≤ 2100 := by omega
  have dB : 0 ≤ (0 : Int) ∧ (0 : Int) ≤ 2100 := by omega
  have pA0 : 0 ≤ 2 ^ (0 : Int).toNat * fX a := Int.mul_nonneg (Int.le_of_lt (pow_pos' _)) xa.1
  have pB0 : 0 ≤ 2 ^ (0 : Int).toNat * fX b := Int.mul_nonneg (Int.le_of_lt (pow_pos' _)) xb.1
  obtain ⟨P, hP⟩ : ∃ P, 2 ^ (0 : Int).toNat * fX a = P := ⟨_, rfl⟩
  obtain ⟨Q, hQ⟩ : ∃ Q, 2 ^ (0 : Int).toNat * fX b = Q := ⟨_, rfl⟩
  rw [hP] at pA0 KA hc hS
  rw [hQ] at pB0 KB hc hS
  have hz : zI a b = sv (fS a) ((P - Q) * 2 ^ (fY b + 1074).toNat) := by unfold zI; rw [(sv_dif hs _ _).1, Int.sub_mul, KA, KB]
  have pS : 0 < P - Q := by omega
  obtain ⟨f0, g0⟩ := ref_round ha hb h1 h2 hz pS l0.1 l0.2.1 md
  have CR : Hid (∀ (w : World) (v : Value), RowV w v (P - Q) 5000 → Calls Try.prog 43 #[.bool (fS a), v, .int .i64 (fY b), .bool false, .int .u8 md] w (RetF (smF md a b) (smG md a b) w)) := by
    intro w v hv
    have R := hround_pos hv (by decide) pS (fS a) (fY b) false md
    rw [f0, g0] at R
    exact R
  clear f0 g0 pS
  have t0 : (fS a == fS b) = false := by cases h : fS a <;> cases h' : fS b <;> rw [h, h'] at hs <;> simp at hs ⊢
  have zx : (fX a == 0) = true := by simpa using hx
  have zy : (fX b == 0) = false := by simpa using hy
  clear hx hy
  have HP := Lib.hid hP
  have HQ := Lib.hid hQ
  have s0 : 0 ≤ P - Q := by omega
  have LZ : (blen (P - Q) == 0) = false := by rw [blen_none s0]; simp; omega
  have HLZ := Lib.hid LZ
  have tc : Hid (∀ w : World, decide (0 ≤ cmpI P Q) = true) := fun _ => by rw [cmp_at]; exact decide_eq_true hc
  have hle := hc
  clear h1 h2 HA HB KA KB hz hP hQ hs LZ hS
  clear hc
  go_enter Try.func12, Try.ntmps12
  go_wp2_with fail
  refine (kis_any a 4 ha _).mono ?_
  rw [na]
  rintro e w2 ⟨rfl, rfl⟩
  go_wp2_with fail
  refine (kis_any b 4 hb _).mono ?_
  rw [nb]
  rintro e w2 ⟨rfl, rfl⟩
  go_wp2_with fail
  refine (kis_any a 3 ha _).mono ?_
  rw [ia]
  rintro e w2 ⟨rfl, rfl⟩
  go_wp2_with fail
  refine (kis_any a 3 ha _).mono ?_
  rw [ia]
  rintro e w2 ⟨rfl, rfl⟩
  go_wp2_with fail
  refine (kis_any b 3 hb _).mono ?_
  rw [ib]
  rintro e w2 ⟨rfl, rfl⟩
  go_wp2_with fail
  refine (SA.out _).mono ?_
  rintro e w2 ⟨rfl, rfl⟩
  go_wp2_with fail
  refine (SB.out _).mono ?_
  rintro e w2 ⟨rfl, rfl⟩
  go_wp2_with fail
  refine (kbits_any _ xa _).mono ?_
  rintro e w1 ⟨v1, r1, rfl, hb1⟩
  have HB1 := Lib.hid hb1
  clear hb1
  go_wp2_with fail
  refine (shlV r1.v (by decide) dA.1 (by omega) 2200 (by omega)).mono ?_
  rintro e w2 ⟨v2, r2, rfl, hb2⟩
  rw [HP.out] at r2
  have HB2 := Lib.hid (bel_trans HB1.out hb2)
  clear hb2 HB1 r1
  go_wp2_with fail
  refine (kbits_any _ xb _).mono ?_
  rintro e w3 ⟨v3, r3, rfl, hb3⟩
  have r4 := r2.below hb3
  have HB3 := Lib.hid (bel_trans HB2.out hb3)
  clear hb3 HB2 r2
  go_wp2_with fail
  refine (shlV r3.v (by decide) dB.1 (by omega) 2200 (by omega)).mono ?_
  rintro e w4 ⟨v4, r5, rfl, hb4⟩
  rw [HQ.out] at r5
  have r6 := r4.below hb4
  have HB4 := Lib.hid (bel_trans HB3.out hb4)
  clear hb4 HB3 r4 r3
  go_wp2_with fail
  refine (kneg_any a ha _).mono ?_
  rintro e w5 ⟨rfl, rfl⟩
  go_wp2_with fail
  refine (kneg_any a ha _).mono ?_
  rintro e w5 ⟨rfl, rfl⟩
  go_wp2_with fail
  refine (kneg_any b hb _).mono ?_
  rintro e w5 ⟨rfl, rfl⟩
  obtain ⟨A2, n2, c2, rfl, hn2⟩ := r6.formL
  obtain ⟨A4, n4, c4, rfl, hn4⟩ := r5.formL
  go_wp2_with fail
  refine (rcmpV r6 r5 (by decide) (by decide)).mono ?_
  rintro e w5 ⟨rfl, rfl⟩
  have tcc := tc.out w4
  go_wp2_with fail
  refine (rsubN r6 r5 (by decide) (by decide) _ (by first | omega | (rw [wrap64_in (by omega) (by omega)] <;> omega)) hle).mono ?_
  rintro e w5 ⟨v5, b5, r7, rfl, hb5⟩
  have r8 := r7.mono (show 2200 + 2200 ≤ 5000 by decide)
  have HB5 := Lib.hid (bel_trans HB4.out hb5)
  clear hb5 HB4 r7 r6 r5 tcc
  go_wp2_with fail
  refine (rlenV r8 (by decide)).mono ?_
  rintro e w6 ⟨rfl, rfl⟩
  have lz := HLZ.out
  go_wp2_with fail
  refine (CR.out _ _ r8).mono ?_
  rintro e w7 ⟨rfl, hb7⟩
  go_wp2_with fail
  go_ret2
  exact ⟨rfl, bel_trans HB5.out hb7⟩
set_option maxHeartbeats 8000000 in
theorem kadd_zn_lt (a b md : Int) (ha : Word a) (hb : Word b) (h1 : fC a < 3) (h2 : fC b < 3) (hx : fX a = 0) (hy : fX b ≠ 0) (hs : fS a ≠ fS b) (hc : 2 ^ (0 : Int).toNat * fX a < 2 ^ (0 : Int).toNat * fX b) (w : World) :
    Calls Try.prog 12 #[.int .u64 a, .int .u64 b, .int .u8 md] w (RetF (saF md a b) (saG md a b) w) := by
  have e1 : saF md a b = smF md a b := by unfold saF; rw [if_neg (by omega), if_neg (fun h => by omega), if_neg (by omega), if_neg (by omega)]
  have e2 : saG md a b = smG md a b := by unfold saG; rw [if_neg (by omega), if_neg (fun h => by omega), if_neg (by omega), if_neg (by omega)]
  rw [e1, e2]
  clear e1 e2
  have na : decide (fC a = 4) = false := decide_eq_false (by omega)
  have nb : decide (fC b = 4) = false := decide_eq_false (by omega)
  have ia : decide (fC a = 3) = false := decide_eq_false (by omega)
  have ib : decide (fC b = 3) = false := decide_eq_false (by omega)
  have SA := Lib.hid (fun w => gsplit_any a ha w)
  have SB := Lib.hid (fun w => gsplit_any b hb w)
  have xa := fX_word a
  have xb := fX_word b
  have ya := fY_bd a
  have yb := fY_bd b
  have HA : fX a * 2 ^ (fY b + 1074).toNat = fMg a := over_nil ha h1 hx
  have HB : fX b * 2 ^ (fY b + 1074).toNat = fMg b := fMg_is hb h2
  have l0 : -1074 ≤ fY b ∧ fY b ≤ 972 ∧ fY b ≤ fY b ∧ fY b ≤ fY b := by omega
  have KA := over_low (d := (0 : Int)) (by omega) HA l0.2.2.1 l0.1
  have KB := over_low (d := (0 : Int)) (by omega) HB l0.2.2.2 l0.1
  have dA : 0 ≤ (0 : Int) ∧ (0 : Int) ≤ 2100 := by omega
  have dB : 0 ≤ (0 : Int) ∧ (0 : Int) ≤ 2100 := by omega
  have pA0 : 0 ≤ 2 ^ (0 : Int).toNat * fX a := Int.mul_nonneg (Int.le_of_lt (pow_pos' _)) xa.1
  have pB0 : 0 ≤ 2 ^ (0 : Int).toNat * fX b := Int.mul_nonneg (Int.le_of_lt (pow_pos' _)) xb.1
  obtain ⟨P, hP⟩ : ∃ P, 2 ^ (0 : Int).toNat * fX a = P := ⟨_, rfl⟩
  obtain ⟨Q, hQ⟩ : ∃ Q, 2 ^ (0 : Int).toNat * fX b = Q := ⟨_, rfl⟩
  rw [hP] at pA0 KA hc
  rw [hQ] at pB0 KB hc
  have hz : zI a b = sv (fS b) ((Q - P) * 2 ^ (fY b + 1074).toNat) := by unfold zI; rw [(sv_dif hs _ _).2, Int.sub_mul, KA, KB]
  have pS : 0 < Q - P := by omega
  obtain ⟨f0, g0⟩ := ref_round ha hb h1 h2 hz pS l0.1 l0.2.1 md
  have CR : Hid (∀ (w : World) (v : Value), RowV w v (Q - P) 5000 → Calls Try.prog 43 #[.bool (fS b), v, .int .i64 (fY b), .bool false, .int .u8 md] w (RetF (smF md a b) (smG md a b) w)) := by
    intro w v hv
    have R := hround_pos hv (by decide) pS (fS b) (fY b) false md
    rw [f0, g0] at R
    exact R
  clear f0 g0 pS
  have t0 : (fS a == fS b) = false := by cases h : fS a <;> cases h' : fS b <;> rw [h, h'] at hs <;> simp at hs ⊢
  have zx : (fX a == 0) = true := by simpa using hx
  have zy : (fX b == 0) = false := by simpa using hy
  clear hx hy
  have HP := Lib.hid hP
  have HQ := Lib.hid hQ
  have s0 : 0 ≤ Q - P := by omega
  have LZ : (blen (Q - P) == 0) = false := by rw [blen_none s0]; simp; omega
  have HLZ := Lib.hid LZ
  have tc : Hid (∀ w : World, decide (0 ≤ cmpI P Q) = false) := fun _ => by rw [cmp_at]; exact decide_eq_false (by omega)
  have hle : P ≤ Q := by omega
  clear h1 h2 HA HB KA KB hz hP hQ hs LZ
  clear hc
  go_enter Try.func12, Try.ntmps12
  go_wp2_with fail
  refine (kis_any a 4 ha _).mono ?_
  rw [na]
  rintro e w2 ⟨rfl, rfl⟩
  go_wp2_with fail
  refine (kis_any b 4 hb _).mono ?_
  rw [nb]
  rintro e w2 ⟨rfl, rfl⟩
  go_wp2_with fail
  refine (kis_any a 3 ha _).mono ?_
  rw [ia]
  rintro e w2 ⟨rfl, rfl⟩
  go_wp2_with fail
  refine (kis_any a 3 ha _).mono ?_
  rw [ia]
  rintro e w2 ⟨rfl, rfl⟩
  go_wp2_with fail
  refine (kis_any b 3 hb _).mono ?_
  rw [ib]
  rintro e w2 ⟨rfl, rfl⟩
  go_wp2_with fail
  refine (SA.out _).mono ?_
  rintro e w2 ⟨rfl, rfl⟩
  go_wp2_with fail
  refine (SB.out _).mono ?_
  rintro e w2 ⟨rfl, rfl⟩
  go_wp2_with fail
  refine (kbits_any _ xa _).mono ?_
  rintro e w1 ⟨v1, r1, rfl, hb1⟩
  have HB1 := Lib.hid hb1
  clear hb1
  go_wp2_with fail
  refine (shlV r1.v (by decide) dA.1 (by omega) 2200 (by omega)).mono ?_
  rintro e w2 ⟨v2, r2, rfl, hb2⟩
  rw [HP.out] at r2
  have HB2 := Lib.hid (bel_trans HB1.out hb2)
  clear hb2 HB1 r1
  go_wp2_with fail
  refine (kbits_any _ xb _).mono ?_
  rintro e w3 ⟨v3, r3, rfl, hb3⟩
  have r4 := r2.below hb3
  have HB3 := Lib.hid (bel_trans HB2.out hb3)
  clear hb3 HB2 r2
  go_wp2_with fail
  refine (shlV r3.v (by decide) dB.1 (by omega) 2200 (by omega)).mono ?_
  rintro e w4 ⟨v4, r5, rfl, hb4⟩
  rw [HQ.out] at r5
  have r6 := r4.below hb4
  have HB4 := Lib.hid (bel_trans HB3.out hb4)
  clear hb4 HB3 r4 r3
  go_wp2_with fail
  refine (kneg_any a ha _).mono ?_
  rintro e w5 ⟨rfl, rfl⟩
  go_wp2_with fail
  refine (kneg_any a ha _).mono ?_
  rintro e w5 ⟨rfl, rfl⟩
  go_wp2_with fail
  refine (kneg_any b hb _).mono ?_
  rintro e w5 ⟨rfl, rfl⟩
  obtain ⟨A2, n2, c2, rfl, hn2⟩ := r6.formL
  obtain ⟨A4, n4, c4, rfl, hn4⟩ := r5.formL
  go_wp2_with fail
  refine (rcmpV r6 r5 (by decide) (by decide)).mono ?_
  rintro e w5 ⟨rfl, rfl⟩
  have tcc := tc.out w4
  go_wp2_with fail
  refine (rsubN r5 r6 (by decide) (by decide) _ (by first | omega | (rw [wrap64_in (by omega) (by omega)] <;> omega)) hle).mono ?_
  rintro e w5 ⟨v5, b5, r7, rfl, hb5⟩
  have r8 := r7.mono (show 2200 + 2200 ≤ 5000 by decide)
  have HB5 := Lib.hid (bel_trans HB4.out hb5)
  clear hb5 HB4 r7 r6 r5 tcc
  go_wp2_with fail
  refine (kneg_any b hb _).mono ?_
  rintro e w6 ⟨rfl, rfl⟩
  go_wp2_with fail
  refine (rlenV r8 (by decide)).mono ?_
  rintro e w6 ⟨rfl, rfl⟩
  have lz := HLZ.out
  go_wp2_with fail
  refine (CR.out _ _ r8).mono ?_
  rintro e w7 ⟨rfl, hb7⟩
  go_wp2_with fail
  go_ret2
  exact ⟨rfl, bel_trans HB5.out hb7⟩
set_option maxHeartbeats 8000000 in
theorem kadd_zz_same0 (a b md : Int) (ha : Word a) (hb : Word b) (h1 : fC a < 3) (h2 : fC b < 3) (hx : fX a = 0) (hy : fX b = 0) (hs : fS a = fS b) (hS : (2 ^ (0 : Int).toNat * fX a) + (2 ^ (0 : Int).toNat * fX b) = 0) (w : World) :
    Calls Try.prog 12 #[.int .u64 a, .int .u64 b, .int .u8 md] w (RetF (saF md a b) (saG md a b) w) := by
  have e1 : saF md a b = smF md a b := by unfold saF; rw [if_neg (by omega), if_neg (fun h => by omega), if_neg (by omega), if_neg (by omega)]
  have e2 : saG md a b = smG md a b := by unfold saG; rw [if_neg (by omega), if_neg (fun h => by omega), if_neg (by omega), if_neg (by omega)]
  rw [e1, e2]
  clear e1 e2
  have na : decide (fC a = 4) = false := decide_eq_false (by omega)
  have nb : decide (fC b = 4) = false := decide_eq_false (by omega)
  have ia : decide (fC a = 3) = false := decide_eq_false (by omega)
  have ib : decide (fC b = 3) = false := decide_eq_false (by omega)
  have SA := Lib.hid (fun w => gsplit_any a ha w)
  have SB := Lib.hid (fun w => gsplit_any b hb w)
  have xa := fX_word a
  have xb := fX_word b
  have ya := fY_bd a
  have yb := fY_bd b
  have HA : fX a * 2 ^ (fY b + 1074).toNat = fMg a := over_nil ha h1 hx
  have HB : fX b * 2 ^ (fY b + 1074).toNat = fMg b := over_nil hb h2 hy
  have l0 : -1074 ≤ fY b ∧ fY b ≤ 972 ∧ fY b ≤ fY b ∧ fY b ≤ fY b := by omega
  have KA := over_low (d := (0 : Int)) (by omega) HA l0.2.2.1 l0.1
  have KB := over_low (d := (0 : Int)) (by omega) HB l0.2.2.2 l0.1
  have dA : 0 ≤ (0 : Int) ∧ (0 : Int) ≤ 2100 := by omega
  have dB : 0 ≤ (0 : Int) ∧ (0 : Int) ≤ 2100 := by omega
  have pA0 : 0 ≤ 2 ^ (0 : Int).toNat * fX a := Int.mul_nonneg (Int.le_of_lt (pow_pos' _)) xa.1
  have pB0 : 0 ≤ 2 ^ (0 : Int).toNat * fX b := Int.mul_nonneg (Int.le_of_lt (pow_pos' _)) xb.1
  obtain ⟨P, hP⟩ : ∃ P, 2 ^ (0 : Int).toNat * fX a = P := ⟨_, rfl⟩
  obtain ⟨Q, hQ⟩ : ∃ Q, 2 ^ (0 : Int).toNat * fX b = Q := ⟨_, rfl⟩
  rw [hP] at pA0 KA hS
  rw [hQ] at pB0 KB hS
  have hz : zI a b = sv (fS a) ((P + Q) * 2 ^ (fY b + 1074).toNat) := by unfold zI; rw [← hs, sv_sum, Int.add_mul, KA, KB]
  rw [hS] at hz
  obtain ⟨f0, g0⟩ := ref_nil ha hb h1 h2 hz md
  rw [f0, g0]
  rw [if_pos hs]
  clear f0 g0
  have t0 : (fS a == fS b) = true := by cases h : fS a <;> cases h' : fS b <;> rw [h, h'] at hs <;> simp at hs ⊢
  have zx : (fX a == 0) = true := by simpa using hx
  have zy : (fX b == 0) = true := by simpa using hy
  clear hx hy
  have HP := Lib.hid hP
  have HQ := Lib.hid hQ
  have s0 : 0 ≤ P + Q := by omega
  have LZ : (blen (P + Q) == 0) = true := by rw [blen_none s0]; simp; omega
  have HLZ := Lib.hid LZ
  clear h1 h2 HA HB KA KB hz hP hQ hs LZ hS
  go_enter Try.func12, Try.ntmps12
  go_wp2_with fail
  refine (kis_any a 4 ha _).mono ?_
  rw [na]
  rintro e w2 ⟨rfl, rfl⟩
  go_wp2_with fail
  refine (kis_any b 4 hb _).mono ?_
  rw [nb]
  rintro e w2 ⟨rfl, rfl⟩
  go_wp2_with fail
  refine (kis_any a 3 ha _).mono ?_
  rw [ia]
  rintro e w2 ⟨rfl, rfl⟩
  go_wp2_with fail
  refine (kis_any a 3 ha _).mono ?_
  rw [ia]
  rintro e w2 ⟨rfl, rfl⟩
  go_wp2_with fail
  refine (kis_any b 3 hb _).mono ?_
  rw [ib]
  rintro e w2 ⟨rfl, rfl⟩
  go_wp2_with fail
  refine (SA.out _).mono ?_
  rintro e w2 ⟨rfl, rfl⟩
  go_wp2_with fail
  refine (SB.out _).mono ?_
  rintro e w2 ⟨rfl, rfl⟩
  go_wp2_with fail
  refine (kbits_any _ xa _).mono ?_
  rintro e w1 ⟨v1, r1, rfl, hb1⟩
  have HB1 := Lib.hid hb1
  clear hb1
  go_wp2_with fail
  refine (shlV r1.v (by decide) dA.1 (by omega) 2200 (by omega)).mono ?_
  rintro e w2 ⟨v2, r2, rfl, hb2⟩
  rw [HP.out] at r2
  have HB2 := Lib.hid (bel_trans HB1.out hb2)
  clear hb2 HB1 r1
  go_wp2_with fail
  refine (kbits_any _ xb _).mono ?_
  rintro e w3 ⟨v3, r3, rfl, hb3⟩
  have r4 := r2.below hb3
  have HB3 := Lib.hid (bel_trans HB2.out hb3)
  clear hb3 HB2 r2
  go_wp2_with fail
  refine (shlV r3.v (by decide) dB.1 (by omega) 2200 (by omega)).mono ?_
  rintro e w4 ⟨v4, r5, rfl, hb4⟩
  rw [HQ.out] at r5
  have r6 := r4.below hb4
  have HB4 := Lib.hid (bel_trans HB3.out hb4)
  clear hb4 HB3 r4 r3
  go_wp2_with fail
  refine (kneg_any a ha _).mono ?_
  rintro e w5 ⟨rfl, rfl⟩
  go_wp2_with fail
  refine (kneg_any a ha _).mono ?_
  rintro e w5 ⟨rfl, rfl⟩
  go_wp2_with fail
  refine (kneg_any b hb _).mono ?_
  rintro e w5 ⟨rfl, rfl⟩
  go_wp2_with fail
  refine (raddV r6 r5 (by decide) (by decide)).mono ?_
  rintro e w5 ⟨v5, r7, rfl, hb5⟩
  have r8 := r7.mono (show 2200 + 2200 + 1 ≤ 5000 by decide)
  have HB5 := Lib.hid (bel_trans HB4.out hb5)
  clear hb5 HB4 r7 r6 r5
  go_wp2_with fail
  refine (rlenV r8 (by decide)).mono ?_
  rintro e w6 ⟨rfl, rfl⟩
  have lz := HLZ.out
  go_wp2_with fail
  refine (kneg_any a ha _).mono ?_
  rintro e w7 ⟨rfl, rfl⟩
  go_wp2_with fail
  refine (kneg_any b hb _).mono ?_
  rintro e w7 ⟨rfl, rfl⟩
  go_wp2_with fail
  refine (kneg_any a ha _).mono ?_
  rintro e w7 ⟨rfl, rfl⟩
  go_wp2_with fail
  refine (kzero_any _ _).mono ?_
  rintro e w7 ⟨rfl, rfl⟩
  go_wp2_with fail
  go_ret2
  exact ⟨rfl, HB5.out⟩
set_option maxHeartbeats 8000000 in
theorem kadd_zz_same1 (a b md : Int) (ha : Word a) (hb : Word b) (h1 : fC a < 3) (h2 : fC b < 3) (hx : fX a = 0) (hy : fX b = 0) (hs : fS a = fS b) (hS : (2 ^ (0 : Int).toNat * fX a) + (2 ^ (0 : Int).toNat * fX b) ≠ 0) (w : World) :
    Calls Try.prog 12 #[.int .u64 a, .int .u64 b, .int .u8 md] w (RetF (saF md a b) (saG md a b) w) := by
  have e1 : saF md a b = smF md a b := by unfold saF; rw [if_neg (by omega), if_neg (fun h => by omega), if_neg (by omega), if_neg (by omega)]
  have e2 : saG md a b = smG md a b := by unfold saG; rw [if_neg (by omega), if_neg (fun h => by omega), if_neg (by omega), if_neg (by omega)]
  rw [e1, e2]
  clear e1 e2
  have na : decide (fC a = 4) = false := decide_eq_false (by omega)
  have nb : decide (fC b = 4) = false := decide_eq_false (by omega)
  have ia : decide (fC a = 3) = false := decide_eq_false (by omega)
  have ib : decide (fC b = 3) = false := decide_eq_false (by omega)
  have SA := Lib.hid (fun w => gsplit_any a ha w)
  have SB := Lib.hid (fun w => gsplit_any b hb w)
  have xa := fX_word a
  have xb := fX_word b
  have ya := fY_bd a
  have yb := fY_bd b
  have HA : fX a * 2 ^ (fY b + 1074).toNat = fMg a := over_nil ha h1 hx
  have HB : fX b * 2 ^ (fY b + 1074).toNat = fMg b := over_nil hb h2 hy
  have l0 : -1074 ≤ fY b ∧ fY b ≤ 972 ∧ fY b ≤ fY b ∧ fY b ≤ fY b := by omega
  have KA := over_low (d := (0 : Int)) (by omega) HA l0.2.2.1 l0.1
  have KB := over_low (d := (0 : Int)) (by omega) HB l0.2.2.2 l0.1
  have dA : 0 ≤ (0 : Int) ∧ (0 : Int) ≤ 2100 := by omega
  have dB : 0 ≤ (0 : Int) ∧ (0 : Int) ≤ 2100 := by omega
  have pA0 : 0 ≤ 2 ^ (0 : Int).toNat * fX a := Int.mul_nonneg (Int.le_of_lt (pow_pos' _)) xa.1
  have pB0 : 0 ≤ 2 ^ (0 : Int).toNat * fX b := Int.mul_nonneg (Int.le_of_lt (pow_pos' _)) xb.1
  obtain ⟨P, hP⟩ : ∃ P, 2 ^ (0 : Int).toNat * fX a = P := ⟨_, rfl⟩
  obtain ⟨Q, hQ⟩ : ∃ Q, 2 ^ (0 : Int).toNat * fX b = Q := ⟨_, rfl⟩
  rw [hP] at pA0 KA hS
  rw [hQ] at pB0 KB hS
  have hz : zI a b = sv (fS a) ((P + Q) * 2 ^ (fY b + 1074).toNat) := by unfold zI; rw [← hs, sv_sum, Int.add_mul, KA, KB]
  have pS : 0 < P + Q := by omega
  obtain ⟨f0, g0⟩ := ref_round ha hb h1 h2 hz pS l0.1 l0.2.1 md
  have CR : Hid (∀ (w : World) (v : Value), RowV w v (P + Q) 5000 → Calls Try.prog 43 #[.bool (fS a), v, .int .i64 (fY b), .bool false, .int .u8 md] w (RetF (smF md a b) (smG md a b) w)) := by
    intro w v hv
    have R := hround_pos hv (by decide) pS (fS a) (fY b) false md
    rw [f0, g0] at R
    exact R
  clear f0 g0 pS
  have t0 : (fS a == fS b) = true := by cases h : fS a <;> cases h' : fS b <;> rw [h, h'] at hs <;> simp at hs ⊢
  have zx : (fX a == 0) = true := by simpa using hx
  have zy : (fX b == 0) = true := by simpa using hy
  clear hx hy
  have HP := Lib.hid hP
  have HQ := Lib.hid hQ
  have s0 : 0 ≤ P + Q := by omega
  have LZ : (blen (P + Q) == 0) = false := by rw [blen_none s0]; simp; omega
  have HLZ := Lib.hid LZ
  clear h1 h2 HA HB KA KB hz hP hQ hs LZ hS
  go_enter Try.func12, Try.ntmps12
  go_wp2_with fail
  refine (kis_any a 4 ha _).mono ?_
  rw [na]
  rintro e w2 ⟨rfl, rfl⟩
  go_wp2_with fail
  refine (kis_any b 4 hb _).mono ?_
  rw [nb]
  rintro e w2 ⟨rfl, rfl⟩
  go_wp2_with fail
  refine (kis_any a 3 ha _).mono ?_
  rw [ia]
  rintro e w2 ⟨rfl, rfl⟩
  go_wp2_with fail
  refine (kis_any a 3 ha _).mono ?_
  rw [ia]
  rintro e w2 ⟨rfl, rfl⟩
  go_wp2_with fail
  refine (kis_any b 3 hb _).mono ?_
  rw [ib]
  rintro e w2 ⟨rfl, rfl⟩
  go_wp2_with fail
  refine (SA.out _).mono ?_
  rintro e w2 ⟨rfl, rfl⟩
  go_wp2_with fail
  refine (SB.out _).mono ?_
  rintro e w2 ⟨rfl, rfl⟩
  go_wp2_with fail
  refine (kbits_any _ xa _).mono ?_
  rintro e w1 ⟨v1, r1, rfl, hb1⟩
  have HB1 := Lib.hid hb1
  clear hb1
  go_wp2_with fail
  refine (shlV r1.v (by decide) dA.1 (by omega) 2200 (by omega)).mono ?_
  rintro e w2 ⟨v2, r2, rfl, hb2⟩
  rw [HP.out] at r2
  have HB2 := Lib.hid (bel_trans HB1.out hb2)
  clear hb2 HB1 r1
  go_wp2_with fail
  refine (kbits_any _ xb _).mono ?_
  rintro e w3 ⟨v3, r3, rfl, hb3⟩
  have r4 := r2.below hb3
  have HB3 := Lib.hid (bel_trans HB2.out hb3)
  clear hb3 HB2 r2
  go_wp2_with fail
  refine (shlV r3.v (by decide) dB.1 (by omega) 2200 (by omega)).mono ?_
  rintro e w4 ⟨v4, r5, rfl, hb4⟩
  rw [HQ.out] at r5
  have r6 := r4.below hb4
  have HB4 := Lib.hid (bel_trans HB3.out hb4)
  clear hb4 HB3 r4 r3
  go_wp2_with fail
  refine (kneg_any a ha _).mono ?_
  rintro e w5 ⟨rfl, rfl⟩
  go_wp2_with fail
  refine (kneg_any a ha _).mono ?_
  rintro e w5 ⟨rfl, rfl⟩
  go_wp2_with fail
  refine (kneg_any b hb _).mono ?_
  rintro e w5 ⟨rfl, rfl⟩
  go_wp2_with fail
  refine (raddV r6 r5 (by decide) (by decide)).mono ?_
  rintro e w5 ⟨v5, r7, rfl, hb5⟩
  have r8 := r7.mono (show 2200 + 2200 + 1 ≤ 5000 by decide)
  have HB5 := Lib.hid (bel_trans HB4.out hb5)
  clear hb5 HB4 r7 r6 r5
  go_wp2_with fail
  refine (rlenV r8 (by decide)).mono ?_
  rintro e w6 ⟨rfl, rfl⟩
  have lz := HLZ.out
  go_wp2_with fail
  refine (CR.out _ _ r8).mono ?_
  rintro e w7 ⟨rfl, hb7⟩
  go_wp2_with fail
  go_ret2
  exact ⟨rfl, bel_trans HB5.out hb7⟩
set_option maxHeartbeats 8000000 in
theorem kadd_zz_ge0 (a b md : Int) (ha : Word a) (hb : Word b) (h1 : fC a < 3) (h2 : fC b < 3) (hx : fX a = 0) (hy : fX b = 0) (hs : fS a ≠ fS b) (hc : 2 ^ (0 : Int).toNat * fX b ≤ 2 ^ (0 : Int).toNat * fX a) (hS : (2 ^ (0 : Int).toNat * fX a) - (2 ^ (0 : Int).toNat * fX b) = 0) (w : World) :
    Calls Try.prog 12 #[.int .u64 a, .int .u64 b, .int .u8 md] w (RetF (saF md a b) (saG md a b) w) := by
  have e1 : saF md a b = smF md a b := by unfold saF; rw [if_neg (by omega), if_neg (fun h => by omega), if_neg (by omega), if_neg (by omega)]
  have e2 : saG md a b = smG md a b := by unfold saG; rw [if_neg (by omega), if_neg (fun h => by omega), if_neg (by omega), if_neg (by omega)]
  rw [e1, e2]
  clear e1 e2
  have na : decide (fC a = 4) = false := decide_eq_false (by omega)
  have nb : decide (fC b = 4) = false := decide_eq_false (by omega)
  have ia : decide (fC a = 3) = false := decide_eq_false (by omega)
  have ib : decide (fC b = 3) = false := decide_eq_false (by omega)
  have SA := Lib.hid (fun w => gsplit_any a ha w)
  have SB := Lib.hid (fun w => gsplit_any b hb w)
  have xa := fX_word a
  have xb := fX_word b
  have ya := fY_bd a
  have yb := fY_bd b
  have HA : fX a * 2 ^ (fY b + 1074).toNat = fMg a := over_nil ha h1 hx
  have HB : fX b * 2 ^ (fY b + 1074).toNat = fMg b := over_nil hb h2 hy
  have l0 : -1074 ≤ fY b ∧ fY b ≤ 972 ∧ fY b ≤ fY b ∧ fY b ≤ fY b := by omega
  have KA := over_low (d := (0 : Int)) (by omega) HA l0.2.2.1 l0.1
  have KB := over_low (d := (0 : Int)) (by omega) HB l0.2.2.2 l0.1
  have dA : 0 ≤ (0 : Int) ∧ (0 : Int) ≤ 2100 := by omega
  have dB : 0 ≤ (0 : Int) ∧ (0 : Int) ≤ 2100 := by omega
  have pA0 : 0 ≤ 2 ^ (0 : Int).toNat * fX a := Int.mul_nonneg (Int.le_of_lt (pow_pos' _)) xa.1
  have pB0 : 0 ≤ 2 ^ (0 : Int).toNat * fX b := Int.mul_nonneg (Int.le_of_lt (pow_pos' _)) xb.1
  obtain ⟨P, hP⟩ : ∃ P, 2 ^ (0 : Int).toNat * fX a = P := ⟨_, rfl⟩
  obtain ⟨Q, hQ⟩ : ∃ Q, 2 ^ (0 : Int).toNat * fX b = Q := ⟨_, rfl⟩
  rw [hP] at pA0 KA hc hS
  rw [hQ] at pB0 KB hc hS
  have hz : zI a b = sv (fS a) ((P - Q) * 2 ^ (fY b + 1074).toNat) := by unfold zI; rw [(sv_dif hs _ _).1, Int.sub_mul, KA, KB]
  rw [hS] at hz
  obtain ⟨f0, g0⟩ := ref_nil ha hb h1 h2 hz md
  rw [f0, g0]
  rw [if_neg hs]
  clear f0 g0
  have t0 : (fS a == fS b) = false := by cases h : fS a <;> cases h' : fS b <;> rw [h, h'] at hs <;> simp at hs ⊢
  have zx : (fX a == 0) = true := by simpa using hx
  have zy : (fX b == 0) = true := by simpa using hy
  clear hx hy
  have HP := Lib.hid hP
  have HQ := Lib.hid hQ
  have s0 : 0 ≤ P - Q := by omega
  have LZ : (blen (P - Q) == 0) = true := by rw [blen_none s0]; simp; omega
  have HLZ := Lib.hid LZ
  have tc : Hid (∀ w : World, decide (0 ≤ cmpI P Q) = true) := fun _ => by rw [cmp_at]; exact decide_eq_true hc
  have hle := hc
  clear h1 h2 HA HB KA KB hz hP hQ hs LZ hS
  clear hc
  go_enter Try.func12, Try.ntmps12
  go_wp2_with fail
  refine (kis_any a 4 ha _).mono ?_
  rw [na]
  rintro e w2 ⟨rfl, rfl⟩
  go_wp2_with fail
  refine (kis_any b 4 hb _).mono ?_
  rw [nb]
  rintro e w2 ⟨rfl, rfl⟩
  go_wp2_with fail
  refine (kis_any a 3 ha _).mono ?_
  rw [ia]
  rintro e w2 ⟨rfl, rfl⟩
  go_wp2_with fail
  refine (kis_any a 3 ha _).mono ?_
  rw [ia]
  rintro e w2 ⟨rfl, rfl⟩
  go_wp2_with fail
  refine (kis_any b 3 hb _).mono ?_
  rw [ib]
  rintro e w2 ⟨rfl, rfl⟩
  go_wp2_with fail
  refine (SA.out _).mono ?_
  rintro e w2 ⟨rfl, rfl⟩
  go_wp2_with fail
  refine (SB.out _).mono ?_
  rintro e w2 ⟨rfl, rfl⟩
  go_wp2_with fail
  refine (kbits_any _ xa _).mono ?_
  rintro e w1 ⟨v1, r1, rfl, hb1⟩
  have HB1 := Lib.hid hb1
  clear hb1
  go_wp2_with fail
  refine (shlV r1.v (by decide) dA.1 (by omega) 2200 (by omega)).mono ?_
  rintro e w2 ⟨v2, r2, rfl, hb2⟩
  rw [HP.out] at r2
  have HB2 := Lib.hid (bel_trans HB1.out hb2)
  clear hb2 HB1 r1
  go_wp2_with fail
  refine (kbits_any _ xb _).mono ?_
  rintro e w3 ⟨v3, r3, rfl, hb3⟩
  have r4 := r2.below hb3
  have HB3 := Lib.hid (bel_trans HB2.out hb3)
  clear hb3 HB2 r2
  go_wp2_with fail
  refine (shlV r3.v (by decide) dB.1 (by omega) 2200 (by omega)).mono ?_
  rintro e w4 ⟨v4, r5, rfl, hb4⟩
  rw [HQ.out] at r5
  have r6 := r4.below hb4
  have HB4 := Lib.hid (bel_trans HB3.out hb4)
  clear hb4 HB3 r4 r3
  go_wp2_with fail
  refine (kneg_any a ha _).mono ?_
  rintro e w5 ⟨rfl, rfl⟩
  go_wp2_with fail
  refine (kneg_any a ha _).mono ?_
  rintro e w5 ⟨rfl, rfl⟩
  go_wp2_with fail
  refine (kneg_any b hb _).mono ?_
  rintro e w5 ⟨rfl, rfl⟩
  obtain ⟨A2, n2, c2, rfl, hn2⟩ := r6.formL
  obtain ⟨A4, n4, c4, rfl, hn4⟩ := r5.formL
  go_wp2_with fail
  refine (rcmpV r6 r5 (by decide) (by decide)).mono ?_
  rintro e w5 ⟨rfl, rfl⟩
  have tcc := tc.out w4
  go_wp2_with fail
  refine (rsubN r6 r5 (by decide) (by decide) _ (by first | omega | (rw [wrap64_in (by omega) (by omega)] <;> omega)) hle).mono ?_
  rintro e w5 ⟨v5, b5, r7, rfl, hb5⟩
  have r8 := r7.mono (show 2200 + 2200 ≤ 5000 by decide)
  have HB5 := Lib.hid (bel_trans HB4.out hb5)
  clear hb5 HB4 r7 r6 r5 tcc
  go_wp2_with fail
  refine (rlenV r8 (by decide)).mono ?_
  rintro e w6 ⟨rfl, rfl⟩
  have lz := HLZ.out
  go_wp2_with fail
  refine (kneg_any a ha _).mono ?_
  rintro e w7 ⟨rfl, rfl⟩
  go_wp2_with fail
  refine (kneg_any b hb _).mono ?_
  rintro e w7 ⟨rfl, rfl⟩
  go_wp2_with fail
  refine (kzero_any _ _).mono ?_
  rw [is_two]
  rintro e w7 ⟨rfl, rfl⟩
  go_wp2_with fail
  go_ret2
  exact ⟨rfl, HB5.out⟩
set_option maxHeartbeats 8000000 in
theorem kadd_zz_ge1 (a b md : Int) (ha : Word a) (hb : Word b) (h1 : fC a < 3) (h2 : fC b < 3) (hx : fX a = 0) (hy : fX b = 0) (hs : fS a ≠ fS b) (hc : 2 ^ (0 : Int).toNat * fX b ≤ 2 ^ (0 : Int).toNat * fX a) (hS : (2 ^ (0 : Int).toNat * fX a) - (2 ^ (0 : Int).toNat * fX b) ≠ 0) (w : World) :
    Calls Try.prog 12 #[.int .u64 a, .int .u64 b, .int .u8 md] w (RetF (saF md a b) (saG md a b) w) := by
  have e1 : saF md a b = smF md a b := by unfold saF; rw [if_neg (by omega), if_neg (fun h => by omega), if_neg (by omega), if_neg (by omega)]
  have e2 : saG md a b = smG md a b := by unfold saG; rw [if_neg (by omega), if_neg (fun h => by omega), if_neg (by omega), if_neg (by omega)]
  rw [e1, e2]
  clear e1 e2
  have na : decide (fC a = 4) = false := decide_eq_false (by omega)
  have nb : decide (fC b = 4) = false := decide_eq_false (by omega)
  have ia : decide (fC a = 3) = false := decide_eq_false (by omega)
  have ib : decide (fC b = 3) = false := decide_eq_false (by omega)
  have SA := Lib.hid (fun w => gsplit_any a ha w)
  have SB := Lib.hid (fun w => gsplit_any b hb w)
  have xa := fX_word a
  have xb := fX_word b
  have ya := fY_bd a
  have yb := fY_bd b
  have HA : fX a * 2 ^ (fY b + 1074).toNat = fMg a := over_nil ha h1 hx
  have HB : fX b * 2 ^ (fY b + 1074).toNat = fMg b := over_nil hb h2 hy
  have l0 : -1074 ≤ fY b ∧ fY b ≤ 972 ∧ fY b ≤ fY b ∧ fY b ≤ fY b := by omega
  have KA := over_low (d := (0 : Int)) (by omega) HA l0.2.2.1 l0.1
  have KB := over_low (d := (0 : Int)) (by omega) HB l0.2.2.2 l0.1
  have dA : 0 ≤ (0 : Int) ∧ (0 : Int) ≤ 2100 := by omega
  have dB : 0 ≤ (0 : Int) ∧ (0 : Int) ≤ 2100 := by omega
  have pA0 : 0 ≤ 2 ^ (0 : Int).toNat * fX a := Int.mul_nonneg (Int.le_of_lt (pow_pos' _)) xa.1
  have pB0 : 0 ≤ 2 ^ (0 : Int).toNat * fX b := Int.mul_nonneg (Int.le_of_lt (pow_pos' _)) xb.1
  obtain ⟨P, hP⟩ : ∃ P, 2 ^ (0 : Int).toNat * fX a = P := ⟨_, rfl⟩
  obtain ⟨Q, hQ⟩ : ∃ Q, 2 ^ (0 : Int).toNat * fX b = Q := ⟨_, rfl⟩
  rw [hP] at pA0 KA hc hS
  rw [hQ] at pB0 KB hc hS
  have hz : zI a b = sv (fS a) ((P - Q) * 2 ^ (fY b + 1074).toNat) := by unfold zI; rw [(sv_dif hs _ _).1, Int.sub_mul, KA, KB]
  have pS : 0 < P - Q := by omega
  obtain ⟨f0, g0⟩ := ref_round ha hb h1 h2 hz pS l0.1 l0.2.1 md
  have CR : Hid (∀ (w : World) (v : Value), RowV w v (P - Q) 5000 → Calls Try.prog 43 #[.bool (fS a), v, .int .i64 (fY b), .bool false, .int .u8 md] w (RetF (smF md a b) (smG md a b) w)) := by
    intro w v hv
    have R := hround_pos hv (by decide) pS (fS a) (fY b) false md
    rw [f0, g0] at R
    exact R
  clear f0 g0 pS
  have t0 : (fS a == fS b) = false := by cases h : fS a <;> cases h' : fS b <;> rw [h, h'] at hs <;> simp at hs ⊢
  have zx : (fX a == 0) = true := by simpa using hx
  have zy : (fX b == 0) = true := by simpa using hy
  clear hx hy
  have HP := Lib.hid hP
  have HQ := Lib.hid hQ
  have s0 : 0 ≤ P - Q := by omega
  have LZ : (blen (P - Q) == 0) = false := by rw [blen_none s0]; simp; omega
  have HLZ := Lib.hid LZ
  have tc : Hid (∀ w : World, decide (0 ≤ cmpI P Q) = true) := fun _ => by rw [cmp_at]; exact decide_eq_true hc
  have hle := hc
  clear h1 h2 HA HB KA KB hz hP hQ hs LZ hS
  clear hc
  go_enter Try.func12, Try.ntmps12
  go_wp2_with fail
  refine (kis_any a 4 ha _).mono ?_
  rw [na]
  rintro e w2 ⟨rfl, rfl⟩
  go_wp2_with fail
  refine (kis_any b 4 hb _).mono ?_
  rw [nb]
  rintro e w2 ⟨rfl, rfl⟩
  go_wp2_with fail
  refine (kis_any a 3 ha _).mono ?_
  rw [ia]
  rintro e w2 ⟨rfl, rfl⟩
  go_wp2_with fail
  refine (kis_any a 3 ha _).mono ?_
  rw [ia]
  rintro e w2 ⟨rfl, rfl⟩
  go_wp2_with fail
  refine (kis_any b 3 hb _).mono ?_
  rw [ib]
  rintro e w2 ⟨rfl, rfl⟩
  go_wp2_with fail
  refine (SA.out _).mono ?_
  rintro e w2 ⟨rfl, rfl⟩
  go_wp2_with fail
  refine (SB.out _).mono ?_
  rintro e w2 ⟨rfl, rfl⟩
  go_wp2_with fail
  refine (kbits_any _ xa _).mono ?_
  rintro e w1 ⟨v1, r1, rfl, hb1⟩
  have HB1 := Lib.hid hb1
  clear hb1
  go_wp2_with fail
  refine (shlV r1.v (by decide) dA.1 (by omega) 2200 (by omega)).mono ?_
  rintro e w2 ⟨v2, r2, rfl, hb2⟩
  rw [HP.out] at r2
  have HB2 := Lib.hid (bel_trans HB1.out hb2)
  clear hb2 HB1 r1
  go_wp2_with fail
  refine (kbits_any _ xb _).mono ?_
  rintro e w3 ⟨v3, r3, rfl, hb3⟩
  have r4 := r2.below hb3
  have HB3 := Lib.hid (bel_trans HB2.out hb3)
  clear hb3 HB2 r2
  go_wp2_with fail
  refine (shlV r3.v (by decide) dB.1 (by omega) 2200 (by omega)).mono ?_
  rintro e w4 ⟨v4, r5, rfl, hb4⟩
  rw [HQ.out] at r5
  have r6 := r4.below hb4
  have HB4 := Lib.hid (bel_trans HB3.out hb4)
  clear hb4 HB3 r4 r3
  go_wp2_with fail
  refine (kneg_any a ha _).mono ?_
  rintro e w5 ⟨rfl, rfl⟩
  go_wp2_with fail
  refine (kneg_any a ha _).mono ?_
  rintro e w5 ⟨rfl, rfl⟩
  go_wp2_with fail
  refine (kneg_any b hb _).mono ?_
  rintro e w5 ⟨rfl, rfl⟩
  obtain ⟨A2, n2, c2, rfl, hn2⟩ := r6.formL
  obtain ⟨A4, n4, c4, rfl, hn4⟩ := r5.formL
  go_wp2_with fail
  refine (rcmpV r6 r5 (by decide) (by decide)).mono ?_
  rintro e w5 ⟨rfl, rfl⟩
  have tcc := tc.out w4
  go_wp2_with fail
  refine (rsubN r6 r5 (by decide) (by decide) _ (by first | omega | (rw [wrap64_in (by omega) (by omega)] <;> omega)) hle).mono ?_
  rintro e w5 ⟨v5, b5, r7, rfl, hb5⟩
  have r8 := r7.mono (show 2200 + 2200 ≤ 5000 by decide)
  have HB5 := Lib.hid (bel_trans HB4.out hb5)
  clear hb5 HB4 r7 r6 r5 tcc
  go_wp2_with fail
  refine (rlenV r8 (by decide)).mono ?_
  rintro e w6 ⟨rfl, rfl⟩
  have lz := HLZ.out
  go_wp2_with fail
  refine (CR.out _ _ r8).mono ?_
  rintro e w7 ⟨rfl, hb7⟩
  go_wp2_with fail
  go_ret2
  exact ⟨rfl, bel_trans HB5.out hb7⟩
set_option maxHeartbeats 8000000 in
theorem kadd_zz_lt (a b md : Int) (ha : Word a) (hb : Word b) (h1 : fC a < 3) (h2 : fC b < 3) (hx : fX a = 0) (hy : fX b = 0) (hs : fS a ≠ fS b) (hc : 2 ^ (0 : Int).toNat * fX a < 2 ^ (0 : Int).toNat * fX b) (w : World) :
    Calls Try.prog 12 #[.int .u64 a, .int .u64 b, .int .u8 md] w (RetF (saF md a b) (saG md a b) w) := by
  have e1 : saF md a b = smF md a b := by unfold saF; rw [if_neg (by omega), if_neg (fun h => by omega), if_neg (by omega), if_neg (by omega)]
  have e2 : saG md a b = smG md a b := by unfold saG; rw [if_neg (by omega), if_neg (fun h => by omega), if_neg (by omega), if_neg (by omega)]
  rw [e1, e2]
  clear e1 e2
  have na : decide (fC a = 4) = false := decide_eq_false (by omega)
  have nb : decide (fC b = 4) = false := decide_eq_false (by omega)
  have ia : decide (fC a = 3) = false := decide_eq_false (by omega)
  have ib : decide (fC b = 3) = false := decide_eq_false (by omega)
  have SA := Lib.hid (fun w => gsplit_any a ha w)
  have SB := Lib.hid (fun w => gsplit_any b hb w)
  have xa := fX_word a
  have xb := fX_word b
  have ya := fY_bd a
  have yb := fY_bd b
  have HA : fX a * 2 ^ (fY b + 1074).toNat = fMg a := over_nil ha h1 hx
  have HB : fX b * 2 ^ (fY b + 1074).toNat = fMg b := over_nil hb h2 hy
  have l0 : -1074 ≤ fY b ∧ fY b ≤ 972 ∧ fY b ≤ fY b ∧ fY b ≤ fY b := by omega
  have KA := over_low (d := (0 : Int)) (by omega) HA l0.2.2.1 l0.1
  have KB := over_low (d := (0 : Int)) (by omega) HB l0.2.2.2 l0.1
  have dA : 0 ≤ (0 : Int) ∧ (0 : Int) ≤ 2100 := by omega
  have dB : 0 ≤ (0 : Int) ∧ (0 : Int) ≤ 2100 := by omega
  have pA0 : 0 ≤ 2 ^ (0 : Int).toNat * fX a := Int.mul_nonneg (Int.le_of_lt (pow_pos' _)) xa.1
  have pB0 : 0 ≤ 2 ^ (0 : Int).toNat * fX b := Int.mul_nonneg (Int.le_of_lt (pow_pos' _)) xb.1
  obtain ⟨P, hP⟩ : ∃ P, 2 ^ (0 : Int).toNat * fX a = P := ⟨_, rfl⟩
  obtain ⟨Q, hQ⟩ : ∃ Q, 2 ^ (0 : Int).toNat * fX b = Q := ⟨_, rfl⟩
  rw [hP] at pA0 KA hc
  rw [hQ] at pB0 KB hc
  have hz : zI a b = sv (fS b) ((Q - P) * 2 ^ (fY b + 1074).toNat) := by unfold zI; rw [(sv_dif hs _ _).2, Int.sub_mul, KA, KB]
  have pS : 0 < Q - P := by omega
  obtain ⟨f0, g0⟩ := ref_round ha hb h1 h2 hz pS l0.1 l0.2.1 md
  have CR : Hid (∀ (w : World) (v : Value), RowV w v (Q - P) 5000 → Calls Try.prog 43 #[.bool (fS b), v, .int .i64 (fY b), .bool false, .int .u8 md] w (RetF (smF md a b) (smG md a b) w)) := by
    intro w v hv
    have R := hround_pos hv (by decide) pS (fS b) (fY b) false md
    rw [f0, g0] at R
    exact R
  clear f0 g0 pS
  have t0 : (fS a == fS b) = false := by cases h : fS a <;> cases h' : fS b <;> rw [h, h'] at hs <;> simp at hs ⊢
  have zx : (fX a == 0) = true := by simpa using hx
  have zy : (fX b == 0) = true := by simpa using hy
  clear hx hy
  have HP := Lib.hid hP
  have HQ := Lib.hid hQ
  have s0 : 0 ≤ Q - P := by omega
  have LZ : (blen (Q - P) == 0) = false := by rw [blen_none s0]; simp; omega
  have HLZ := Lib.hid LZ
  have tc : Hid (∀ w : World, decide (0 ≤ cmpI P Q) = false) := fun _ => by rw [cmp_at]; exact decide_eq_false (by omega)
  have hle : P ≤ Q := by omega
  clear h1 h2 HA HB KA KB hz hP hQ hs LZ
  clear hc
  go_enter Try.func12, Try.ntmps12
  go_wp2_with fail
  refine (kis_any a 4 ha _).mono ?_
  rw [na]
  rintro e w2 ⟨rfl, rfl⟩
  go_wp2_with fail
  refine (kis_any b 4 hb _).mono ?_
  rw [nb]
  rintro e w2 ⟨rfl, rfl⟩
  go_wp2_with fail
  refine (kis_any a 3 ha _).mono ?_
  rw [ia]
  rintro e w2 ⟨rfl, rfl⟩
  go_wp2_with fail
  refine (kis_any a 3 ha _).mono ?_
  rw [ia]
  rintro e w2 ⟨rfl, rfl⟩
  go_wp2_with fail
  refine (kis_any b 3 hb _).mono ?_
  rw [ib]
  rintro e w2 ⟨rfl, rfl⟩
  go_wp2_with fail
  refine (SA.out _).mono ?_
  rintro e w2 ⟨rfl, rfl⟩
  go_wp2_with fail
  refine (SB.out _).mono ?_
  rintro e w2 ⟨rfl, rfl⟩
  go_wp2_with fail
  refine (kbits_any _ xa _).mono ?_
  rintro e w1 ⟨v1, r1, rfl, hb1⟩
  have HB1 := Lib.hid hb1
  clear hb1
  go_wp2_with fail
  refine (shlV r1.v (by decide) dA.1 (by omega) 2200 (by omega)).mono ?_
  rintro e w2 ⟨v2, r2, rfl, hb2⟩
  rw [HP.out] at r2
  have HB2 := Lib.hid (bel_trans HB1.out hb2)
  clear hb2 HB1 r1
  go_wp2_with fail
  refine (kbits_any _ xb _).mono ?_
  rintro e w3 ⟨v3, r3, rfl, hb3⟩
  have r4 := r2.below hb3
  have HB3 := Lib.hid (bel_trans HB2.out hb3)
  clear hb3 HB2 r2
  go_wp2_with fail
  refine (shlV r3.v (by decide) dB.1 (by omega) 2200 (by omega)).mono ?_
  rintro e w4 ⟨v4, r5, rfl, hb4⟩
  rw [HQ.out] at r5
  have r6 := r4.below hb4
  have HB4 := Lib.hid (bel_trans HB3.out hb4)
  clear hb4 HB3 r4 r3
  go_wp2_with fail
  refine (kneg_any a ha _).mono ?_
  rintro e w5 ⟨rfl, rfl⟩
  go_wp2_with fail
  refine (kneg_any a ha _).mono ?_
  rintro e w5 ⟨rfl, rfl⟩
  go_wp2_with fail
  refine (kneg_any b hb _).mono ?_
  rintro e w5 ⟨rfl, rfl⟩
  obtain ⟨A2, n2, c2, rfl, hn2⟩ := r6.formL
  obtain ⟨A4, n4, c4, rfl, hn4⟩ := r5.formL
  go_wp2_with fail
  refine (rcmpV r6 r5 (by decide) (by decide)).mono ?_
  rintro e w5 ⟨rfl, rfl⟩
  have tcc := tc.out w4
  go_wp2_with fail
  refine (rsubN r5 r6 (by decide) (by decide) _ (by first | omega | (rw [wrap64_in (by omega) (by omega)] <;> omega)) hle).mono ?_
  rintro e w5 ⟨v5, b5, r7, rfl, hb5⟩
  have r8 := r7.mono (show 2200 + 2200 ≤ 5000 by decide)
  have HB5 := Lib.hid (bel_trans HB4.out hb5)
  clear hb5 HB4 r7 r6 r5 tcc
  go_wp2_with fail
  refine (kneg_any b hb _).mono ?_
  rintro e w6 ⟨rfl, rfl⟩
  go_wp2_with fail
  refine (rlenV r8 (by decide)).mono ?_
  rintro e w6 ⟨rfl, rfl⟩
  have lz := HLZ.out
  go_wp2_with fail
  refine (CR.out _ _ r8).mono ?_
  rintro e w7 ⟨rfl, hb7⟩
  go_wp2_with fail
  go_ret2
  exact ⟨rfl, bel_trans HB5.out hb7⟩

theorem kadd_any (a b md : Int) (ha : Word a) (hb : Word b) (w : World) :
    Calls Try.prog 12 #[.int .u64 a, .int .u64 b, .int .u8 md] w (RetF (saF md a b) (saG md a b) w) := by
  have la := cls_bd a
  have lb := cls_bd b
  by_cases n1 : fC a = 4
  · exact kadd_N1 a b md ha hb n1 w
  by_cases n2 : fC b = 4
  · exact kadd_N2 a b md ha hb n1 n2 w
  by_cases i1 : fC a = 3
  · by_cases i2 : fC b = 3
    · by_cases hs : fS a = fS b
      · exact kadd_IJ a b md ha hb n1 n2 i1 i2 hs w
      · exact kadd_II a b md ha hb n1 n2 i1 i2 hs w
    · exact kadd_IF a b md ha hb n1 n2 i1 i2 w
  by_cases i2 : fC b = 3
  · exact kadd_FI a b md ha hb n1 n2 i1 i2 w
  have h1 : fC a < 3 := by omega
  have h2 : fC b < 3 := by omega
  clear la lb n1 n2 i1 i2
  have C00 : fX a ≠ 0 → fX b ≠ 0 → Calls Try.prog 12 #[.int .u64 a, .int .u64 b, .int .u8 md] w (RetF (saF md a b) (saG md a b) w) := fun hx hy => by
    by_cases hs : fS a = fS b
    · by_cases hS : (2 ^ (fY a - min (fY a) (fY b)).toNat * fX a) + (2 ^ (fY b - min (fY a) (fY b)).toNat * fX b) = 0
      · exact kadd_nn_same0 a b md ha hb h1 h2 hx hy hs hS w
      · exact kadd_nn_same1 a b md ha hb h1 h2 hx hy hs hS w
    · by_cases hc : 2 ^ (fY b - min (fY a) (fY b)).toNat * fX b ≤ 2 ^ (fY a - min (fY a) (fY b)).toNat * fX a
      · by_cases hS : (2 ^ (fY a - min (fY a) (fY b)).toNat * fX a) - (2 ^ (fY b - min (fY a) (fY b)).toNat * fX b) = 0
        · exact kadd_nn_ge0 a b md ha hb h1 h2 hx hy hs hc hS w
        · exact kadd_nn_ge1 a b md ha hb h1 h2 hx hy hs hc hS w
      · exact kadd_nn_lt a b md ha hb h1 h2 hx hy hs (Int.not_le.1 hc) w
  have C01 : fX a ≠ 0 → fX b = 0 → Calls Try.prog 12 #[.int .u64 a, .int .u64 b, .int .u8 md] w (RetF (saF md a b) (saG md a b) w) := fun hx hy => by
    by_cases hs : fS a = fS b
    · by_cases hS : (2 ^ (0 : Int).toNat * fX a) + (2 ^ (0 : Int).toNat * fX b) = 0
      · exact kadd_nz_same0 a b md ha hb h1 h2 hx hy hs hS w
      · exact kadd_nz_same1 a b md ha hb h1 h2 hx hy hs hS w
    · by_cases hc : 2 ^ (0 : Int).toNat * fX b ≤ 2 ^ (0 : Int).toNat * fX a
      · by_cases hS : (2 ^ (0 : Int).toNat * fX a) - (2 ^ (0 : Int).toNat * fX b) = 0
        · exact kadd_nz_ge0 a b md ha hb h1 h2 hx hy hs hc hS w
        · exact kadd_nz_ge1 a b md ha hb h1 h2 hx hy hs hc hS w
      · exact kadd_nz_lt a b md ha hb h1 h2 hx hy hs (Int.not_le.1 hc) w
  have C10 : fX a = 0 → fX b ≠ 0 → Calls Try.prog 12 #[.int .u64 a, .int .u64 b, .int .u8 md] w (RetF (saF md a b) (saG md a b) w) := fun hx hy => by
    by_cases hs : fS a = fS b
    · by_cases hS : (2 ^ (0 : Int).toNat * fX a) + (2 ^ (0 : Int).toNat * fX b) = 0
      · exact kadd_zn_same0 a b md ha hb h1 h2 hx hy hs hS w
      · exact kadd_zn_same1 a b md ha hb h1 h2 hx hy hs hS w
    · by_cases hc : 2 ^ (0 : Int).toNat * fX b ≤ 2 ^ (0 : Int).toNat * fX a
      · by_cases hS : (2 ^ (0 : Int).toNat * fX a) - (2 ^ (0 : Int).toNat * fX b) = 0
        · exact kadd_zn_ge0 a b md ha hb h1 h2 hx hy hs hc hS w
        · exact kadd_zn_ge1 a b md ha hb h1 h2 hx hy hs hc hS w
      · exact kadd_zn_lt a b md ha hb h1 h2 hx hy hs (Int.not_le.1 hc) w
  have C11 : fX a = 0 → fX b = 0 → Calls Try.prog 12 #[.int .u64 a, .int .u64 b, .int .u8 md] w (RetF (saF md a b) (saG md a b) w) := fun hx hy => by
    by_cases hs : fS a = fS b
    · by_cases hS : (2 ^ (0 : Int).toNat * fX a) + (2 ^ (0 : Int).toNat * fX b) = 0
      · exact kadd_zz_same0 a b md ha hb h1 h2 hx hy hs hS w
      · exact kadd_zz_same1 a b md ha hb h1 h2 hx hy hs hS w
    · by_cases hc : 2 ^ (0 : Int).toNat * fX b ≤ 2 ^ (0 : Int).toNat * fX a
      · by_cases hS : (2 ^ (0 : Int).toNat * fX a) - (2 ^ (0 : Int).toNat * fX b) = 0
        · exact kadd_zz_ge0 a b md ha hb h1 h2 hx hy hs hc hS w
        · exact kadd_zz_ge1 a b md ha hb h1 h2 hx hy hs hc hS w
      · exact kadd_zz_lt a b md ha hb h1 h2 hx hy hs (Int.not_le.1 hc) w
  by_cases hx : fX a = 0
  · by_cases hy : fX b = 0
    · exact C11 hx hy
    · exact C10 hx hy
  · by_cases hy : fX b = 0
    · exact C01 hx hy
    · exact C00 hx hy

end Go.Proofs.Ytkdckclefegocaa
