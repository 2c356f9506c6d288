/-
  Contracts of math/bits.TrailingZeros32, of nat's twos and of Gcd: the greatest common divisor. Conditions: at most 2^19 words, each of 32 bits; the table of math/bits stands in its variable.
-/
import Derived.Test.YtaollppieonmbaaDoorNquo
import Derived.Lib.TrailingZeros
namespace Go.Proofs.YtaollppieonmbaaDoor
open Go.RowKit
set_option maxRecDepth 100000

/-- The table of math/bits stands in its variable. -/
def TabOk (w : World) : Prop := ∀ j, j < 32 → w.cell? ⟨1, j, none⟩ = some (.int .u8 ((Lib.deBruijn32tab.getD j 0 : Nat) : Int))
theorem TabOk.below {w w' : World} (h : TabOk w) (hb : Below w.heap.size w w') : TabOk w' := fun j hj =>
  (hb.cell (p := ⟨1, j, none⟩) (World.block_lt_of_cell? _ _ (h j hj))).trans (h j hj)

theorem tz32_key (x a : Nat) (hx : x < 4294967296) (hx0 : x ≠ 0) (hlow : x &&& (4294967296 - x) = a) :
    bits BinOp.and IntKind.u32 (x : Int) (-(x : Int) % 4294967296) * 125613361 % 4294967296 / 134217728 = ((a * 125613361 % 4294967296 / 134217728 : Nat) : Int) := by
  have e1 : -(x : Int) % 4294967296 = ((4294967296 - x : Nat) : Int) := by omega
  rw [e1, u32_and_nat x _ hx (by omega), hlow]
  omega
set_option maxHeartbeats 1000000 in
theorem tz32_core (x k idx : Nat) (w : World) (hx0 : ((x : Int) == 0) = false)
    (key : bits BinOp.and IntKind.u32 (x : Int) (-(x : Int) % 4294967296) * 125613361 % 4294967296 / 134217728 = (idx : Int))
    (hi : idx < 32) (hk : k < 32) (hcell : w.cell? ⟨1, idx, none⟩ = some (.int .u8 k)) :
    Calls Tryd.prog 86 #[.int .u32 x] w fun e w' => e = .returned (.int .i64 k) ∧ w = w' := by
  go_enter Tryd.func86, Tryd.ntmps86
  go_wp2_with (simp only [key])
  go_ret
  exact ⟨rfl, rfl⟩
theorem tz32 (x : Nat) (hx : x < 4294967296) (hx0 : x ≠ 0) (w : World) (hT : TabOk w) :
    Calls Tryd.prog 86 #[.int .u32 x] w fun e w' => e = .returned (.int .i64 (Lib.ctz 32 x)) ∧ w = w' := by
  obtain ⟨hlow, hk⟩ := Lib.lowest_bit 32 x hx0 hx
  obtain ⟨hi, htab⟩ := Lib.deBruijn32_at _ hk
  have hcell := hT _ hi
  rw [htab] at hcell
  exact tz32_core x _ _ w (by simp; omega) (tz32_key x _ hx hx0 hlow) hi hk hcell

/-- 2^t is all that is two in it. -/
def IsTwos (v : Int) (t : Nat) : Prop := ∃ o : Int, v = 2 ^ t * o ∧ o % 2 = 1
theorem twos_at {us : List Int} (_hu : AllW us) {k : Nat} (hk : k < us.length) (hz : ∀ j, j < k → us.getD j 0 = 0) (x : Nat) (ex : us.getD k 0 = (x : Int)) (hx : x < 4294967296) (hx0 : x ≠ 0) : IsTwos (nv us) (32 * k + Lib.ctz 32 x) ∧ Lib.ctz 32 x < 32 := by
  obtain ⟨m, hm, hc⟩ := Lib.ctzFrom_spec 32 x (by omega) hx
  have ec : Lib.ctz 32 x = Lib.ctzFrom 32 x := by simp [Lib.ctz, hx0]
  rw [ec]
  refine ⟨?_, hc⟩
  have e0 : nv (us.take k) = 0 := nv_all_zero _ fun j => by
    rw [getD0_take]
    split
    · rename_i h; exact hz j h
    · rfl
  have e1 := nv_take_drop us k (by omega)
  rw [e0, Int.zero_add, nv_tail (us.drop k), getD0_drop, Nat.add_zero, ex] at e1
  generalize Lib.ctzFrom 32 x = c at *
  have e2 : (4294967296 : Int) = 2 ^ c * (2 ^ (31 - c) * 2) := by
    rw [← Int.pow_succ, ← Int.pow_add, show c + (31 - c + 1) = 32 by omega]
    decide
  have e3 : (x : Int) = 2 ^ c * (2 * (m : Int) + 1) := by
    have : ((x : Nat) : Int) = ((2 ^ c * (2 * m + 1) : Nat) : Int) := by rw [← hm]
    rw [this]
    simp
  refine ⟨2 * (m : Int) + 1 + 2 ^ (31 - c) * 2 * nv (us.drop k).tail, ?_, ?_⟩
  · rw [e1, e3, e2, Int.mul_assoc (2 ^ c), ← Int.mul_add, ← Int.mul_assoc, ← Int.pow_add]
  · rw [Int.mul_right_comm]
    omega

set_option maxHeartbeats 1600000 in
theorem twos_any (A : Option Addr) (n c : Nat) (us : List Int) (w : World) (hn : us.length = n) (hx : Rn w A us) (hu : AllW us) (ln : n ≤ 1048577) (h0 : nv us ≠ 0) (hT : TabOk w) :
    Calls Tryd.prog 81 #[.slice A n c] w fun e w' => (∃ t : Nat, IsTwos (nv us) t ∧ t ≤ 32 * n ∧ e = .returned (.int .i64 (t : Int))) ∧ w = w' := by
  have HN := Lib.hid hn
  have HT := Lib.hid hT
  have H0 := Lib.hid h0
  clear hn hT h0
  go_enter Tryd.func81, Tryd.ntmps81
  go_wp2_with fail
  go_loop [6] (fun s6 => ∃ k : Nat, s6 = .int .i64 (k : Int) ∧ k ≤ n ∧ Hid (∀ j, j < k → us.getD j 0 = 0)) (fun s6 => n - (intOf s6).toNat)
  case atStart => exact ⟨0, rfl, Nat.zero_le _, fun j hj => by omega⟩
  case round =>
    obtain ⟨k, rfl, hk, H⟩ := hrel
    by_cases hlt : k < n
    · obtain ⟨g, off, rfl, hg, hcell⟩ := hx.at_ (i := k) (by have := HN.out; omega)
      have hl1 : (k : Int) < (n : Int) := by omega
      obtain ⟨x, hxx⟩ := Int.eq_ofNat_of_zero_le (hu.getD k).1
      have hx1 := (hu.getD k).2
      by_cases ex : x = 0
      · subst ex
        have H2 : Hid (∀ j, j < k + 1 → us.getD j 0 = 0) := fun j hj => by
          rcases Nat.lt_or_ge j k with e | e
          · exact H.out j e
          · obtain rfl : j = k := by omega
            exact hxx
        rw [hxx] at hcell
        clear hxx H hx1
        go_wp2_with fail
        go_round
        case rel => exact ⟨k + 1, by go_num, by omega, H2⟩
        case measure => simp [intOf]; omega
      · obtain ⟨T1, T2⟩ := twos_at hu (by rw [HN.out]; exact hlt) H.out x hxx (by omega) ex
        have C := Lib.hid (tz32 x (by omega) ex w HT.out)
        rw [hxx] at hcell hx1
        generalize Lib.ctz 32 x = z at *
        have ex2 : ((x : Int) != 0) = true := by simp; omega
        have ex3 : ((x : Int) == 0) = false := by simp; omega
        clear hxx H ex
        go_wp2_with fail
        refine C.out.mono ?_
        rintro e w1 ⟨rfl, rfl⟩
        clear C
        go_wp2_with fail
        go_ret
        exact ⟨⟨32 * k + z, T1, by omega, ret_int (by omega)⟩, rfl⟩
    · exfalso
      refine H0.out (nv_all_zero us fun j => ?_)
      rcases Nat.lt_or_ge j n with h | h
      · exact H.out j (by omega)
      · exact getD0_past us j (by rw [HN.out]; exact h)

/-- The greatest common divisor. -/
def gcdI (a b : Int) : Int := ((Nat.gcd a.toNat b.toNat : Nat) : Int)
theorem gcdI_zero_left {b : Int} (h : 0 ≤ b) : gcdI 0 b = b := by simp [gcdI]; omega
theorem gcdI_zero_right {a : Int} (h : 0 ≤ a) : gcdI a 0 = a := by simp [gcdI]; omega
theorem gcdI_step {a b : Int} (ha : 0 ≤ a) (hb : 0 ≤ b) : gcdI b (a % b) = gcdI a b := by
  obtain ⟨a, rfl⟩ := Int.eq_ofNat_of_zero_le ha
  obtain ⟨b, rfl⟩ := Int.eq_ofNat_of_zero_le hb
  unfold gcdI
  rw [← Int.natCast_emod]
  simp only [Int.toNat_natCast]
  rw [Nat.gcd_comm a b, Nat.gcd_rec b a, Nat.gcd_comm]
theorem odd_coprime (a k : Nat) (h : a % 2 = 1) : Nat.Coprime a (2 ^ k) := by
  apply Nat.Coprime.pow_right
  unfold Nat.Coprime
  rw [Nat.gcd_comm, Nat.gcd_rec, h]
  rfl
theorem gcd_le_twos (i j a b : Nat) (hij : i ≤ j) (ha : a % 2 = 1) : Nat.gcd (2 ^ i * a) (2 ^ j * b) = 2 ^ i * Nat.gcd a b := by
  rw [show 2 ^ j * b = 2 ^ i * (2 ^ (j - i) * b) by rw [← Nat.mul_assoc, ← Nat.pow_add, show i + (j - i) = j by omega], Nat.gcd_mul_left, Nat.Coprime.gcd_mul_left_cancel_right b (odd_coprime a _ ha).symm]
theorem gcdI_twos {a b x y : Int} {i j : Nat} (ea : a = 2 ^ i * x) (eb : b = 2 ^ j * y) (hx : x % 2 = 1) (hy : y % 2 = 1) (hx0 : 0 ≤ x) (hy0 : 0 ≤ y) : gcdI a b = 2 ^ (min i j) * gcdI x y := by
  obtain ⟨x, rfl⟩ := Int.eq_ofNat_of_zero_le hx0
  obtain ⟨y, rfl⟩ := Int.eq_ofNat_of_zero_le hy0
  have e1 : a = ((2 ^ i * x : Nat) : Int) := by rw [ea]; simp
  have e2 : b = ((2 ^ j * y : Nat) : Int) := by rw [eb]; simp
  subst e1 e2
  unfold gcdI
  simp only [Int.toNat_natCast]
  rcases Nat.le_total i j with h | h
  · rw [gcd_le_twos i j x y h (by omega), Nat.min_eq_left h]
    simp
  · rw [Nat.gcd_comm, gcd_le_twos j i y x h (by omega), Nat.min_eq_right h, Nat.gcd_comm y x]
    simp
theorem twos_shr {v o : Int} {t : Nat} (e : v = 2 ^ t * o) : v / 2 ^ t = o := by rw [e, Int.mul_ediv_cancel_left _ (Int.ne_of_gt (pow_pos' t))]
theorem gcdI_le {a b : Int} (ha : 0 < a) : 0 ≤ gcdI a b ∧ gcdI a b ≤ a := by
  obtain ⟨a, rfl⟩ := Int.eq_ofNat_of_zero_le (Int.le_of_lt ha)
  unfold gcdI
  simp only [Int.toNat_natCast]
  have := Nat.gcd_le_left (b.toNat) (show 0 < a by omega)
  exact ⟨by omega, by omega⟩

set_option maxHeartbeats 6400000 in
theorem ngcd_any (A B : Option Addr) (n m c d : Nat) (us vs : List Int) (w : World) (hn : us.length = n) (hm : vs.length = m) (hc : n ≤ c) (hd : m ≤ d) (hx : Rn w A us) (hy : Rn w B vs) (hu : AllW us) (hv : AllW vs) (ln : n ≤ 262144) (lm : m ≤ 262144) (hT : TabOk w) :
    Calls Tryd.prog 67 #[.slice A n c, .slice B m d] w (RetN (gcdI (nv us) (nv vs)) w) := by
  have HN := Lib.hid hn
  have HM := Lib.hid hm
  obtain ⟨U, hU⟩ : ∃ U, nv us = U := ⟨_, rfl⟩
  obtain ⟨V, hV⟩ : ∃ V, nv vs = V := ⟨_, rfl⟩
  rw [hU, hV]
  have HU := Lib.hid hU
  have HV := Lib.hid hV
  have HT := Lib.hid hT
  clear hn hm hU hV hT
  go_enter Tryd.func67, Tryd.ntmps67
  go_wp2_with fail
  refine (trim_any A n c us w HN.out hc hx (by omega)).mono ?_
  rintro e w1 ⟨us', A1, n1, c1, TU, rfl, hc1, hx1, -, rfl⟩
  have NU : IsNat U us' := by have := TU.nat hu; rw [HU.out] at this; exact this
  have ln1 := TU.le HN.out
  have HN1 := Lib.hid TU.len
  clear TU
  go_wp2_with fail
  refine (trim_any B m d vs w HM.out hd hy (by omega)).mono ?_
  rintro e w1 ⟨vs', B1, m1, d1, TV, rfl, hd1, hy1, -, rfl⟩
  have NV : IsNat V vs' := by have := TV.nat hv; rw [HV.out] at this; exact this
  have lm1 := TV.le HM.out
  have HM1 := Lib.hid TV.len
  clear TV HU HV hx hy hu hv
  by_cases hn0 : n1 = 0
  · subst hn0
    have e0 : U = 0 := by
      have := List.eq_nil_of_length_eq_zero HN1.out
      rw [this] at NU
      exact NU.val.symm
    have F : Hid (gcdI U V = V) := by show _ = _; rw [e0]; exact gcdI_zero_left NV.nonneg
    clear e0
    go_wp2_with fail
    refine (clone_any B1 m1 d1 vs' V w HM1.out hy1 NV (by omega)).mono ?_
    rintro e w2 ⟨rs, A3, n3, c3, hr, hl3, rfl, hc3, hr3', hf3, hb3⟩
    have HL3 := Lib.hid hl3
    have HF3 := Lib.hid hf3
    clear hl3 hf3
    go_wp2_with fail
    go_ret
    exact ⟨rs, A3, n3, c3, by rw [F.out]; exact hr, HL3.out, rfl, hc3, hr3', HF3.out, hb3⟩
  · have hn0' : ((n1 : Int) == 0) = false := by simp; omega
    by_cases hm0 : m1 = 0
    · subst hm0
      have e0 : V = 0 := by
        have := List.eq_nil_of_length_eq_zero HM1.out
        rw [this] at NV
        exact NV.val.symm
      have F : Hid (gcdI U V = U) := by show _ = _; rw [e0]; exact gcdI_zero_right NU.nonneg
      clear e0
      go_wp2_with fail
      refine (clone_any A1 n1 c1 us' U w HN1.out hx1 NU (by omega)).mono ?_
      rintro e w2 ⟨rs, A3, n3, c3, hr, hl3, rfl, hc3, hr3', hf3, hb3⟩
      have HL3 := Lib.hid hl3
      have HF3 := Lib.hid hf3
      clear hl3 hf3
      go_wp2_with fail
      go_ret
      exact ⟨rs, A3, n3, c3, by rw [F.out]; exact hr, HL3.out, rfl, hc3, hr3', HF3.out, hb3⟩
    · have hm0' : ((m1 : Int) == 0) = false := by simp; omega
      have hU0 : 0 < U := NU.pos (by rw [HN1.out]; exact hn0)
      have hV0 : 0 < V := NV.pos (by rw [HM1.out]; exact hm0)
      have hU1 := nv_lt us' NU.all
      rw [NU.val, HN1.out] at hU1
      have hV1 := nv_lt vs' NV.all
      rw [NV.val, HM1.out] at hV1
      have HU1 := Lib.hid hU1
      have HV1 := Lib.hid hV1
      have VU := Lib.hid NU.val
      have VV := Lib.hid NV.val
      clear hU1 hV1
      go_wp2_with fail
      refine (twos_any A1 n1 c1 us' w HN1.out hx1 NU.all (by omega) (by rw [VU.out]; omega) HT.out).mono ?_
      rintro e w1 ⟨⟨t1, T1, lt1, rfl⟩, rfl⟩
      go_wp2_with fail
      refine (twos_any B1 m1 d1 vs' w HM1.out hy1 NV.all (by omega) (by rw [VV.out]; omega) HT.out).mono ?_
      rintro e w1 ⟨⟨t2, T2, lt2, rfl⟩, rfl⟩
      rw [VU.out] at T1
      rw [VV.out] at T2
      obtain ⟨x, ex, ox⟩ := T1
      obtain ⟨y, ey, oy⟩ := T2
      have x0 : 0 ≤ x := by
        have := twos_shr ex
        rw [← this]
        exact Int.ediv_nonneg (by omega) (Int.le_of_lt (pow_pos' _))
      have y0 : 0 ≤ y := by
        have := twos_shr ey
        rw [← this]
        exact Int.ediv_nonneg (by omega) (Int.le_of_lt (pow_pos' _))
      have FG : Hid (gcdI U V = 2 ^ (min t1 t2) * gcdI x y) := gcdI_twos ex ey ox oy x0 y0
      have EX : Hid (U / 2 ^ t1 = x) := twos_shr ex
      have EY : Hid (V / 2 ^ t2 = y) := twos_shr ey
      have LX : Hid (x < 2 ^ (32 * 262144)) := by
        show _ < _
        have h1 := Int.ediv_le_self (2 ^ t1) (Int.le_of_lt hU0)
        have h2 := pow_mono (32 * n1) (32 * 262144) (by omega)
        have h3 := HU1.out
        have h4 := EX.out
        omega
      have LY : Hid (y < 2 ^ (32 * 262144)) := by
        show _ < _
        have h1 := Int.ediv_le_self (2 ^ t2) (Int.le_of_lt hV0)
        have h2 := pow_mono (32 * m1) (32 * 262144) (by omega)
        have h3 := HV1.out
        have h4 := EY.out
        omega
      have PX : 0 < x := by omega
      clear ex ey ox oy
      go_wp2_with fail
      refine (nshr_any A1 n1 c1 us' (t1 : Int) w HN1.out hc1 hx1 NU.all (by omega) (by omega)).mono ?_
      rw [show (max (t1 : Int) 0).toNat = t1 by omega, VU.out, EX.out]
      rintro e w2 ⟨xs, A2, n2, c2, hx2, hl2, rfl, hc2, hr2, -, hb2⟩
      have hy2 := hy1.below hb2 (Nat.le_refl _)
      have HL2 := Lib.hid hl2
      clear hl2
      go_wp2_with fail
      refine (nshr_any B1 m1 d1 vs' (t2 : Int) _ HM1.out hd1 hy2 NV.all (by omega) (by omega)).mono ?_
      rw [show (max (t2 : Int) 0).toNat = t2 by omega, VV.out, EY.out]
      rintro e w3 ⟨ys, A3, n3, c3, hx3, hl3, rfl, hc3, hr3, -, hb3⟩
      have HL3 := Lib.hid hl3
      have hr2' := hr2.below hb3 (Nat.le_refl _)
      have HB := Lib.hid (bel_trans hb2 hb3)
      clear hl3 hr2 hy2 hb2 hb3
      go_wp2_with fail
      go_loopg [0, 1] y.toNat (fun gk s0 s1 wr => ∃ (p q : Int) (ps qs : List Int) (P Q : Option Addr) (a b ca cb : Nat), s0 = .slice P a ca ∧ s1 = .slice Q b cb ∧ gk = q.toNat ∧ IsNat p ps ∧ IsNat q qs ∧ Hid (ps.length = a) ∧ Hid (qs.length = b) ∧ a ≤ ca ∧ b ≤ cb ∧ Rn wr P ps ∧ Rn wr Q qs ∧ Hid (gcdI p q = gcdI x y) ∧ 0 < p ∧ Hid (p < 2 ^ (32 * 262144)) ∧ Hid (q < 2 ^ (32 * 262144)) ∧ Hid (Below w.heap.size w wr))
      case atStart => exact ⟨x, y, xs, ys, A2, A3, n2, n3, c2, c3, rfl, rfl, rfl, hx2, hx3, HL2, HL3, hc2, hc3, hr2', hr3, rfl, PX, LX, LY, HB⟩
      case round =>
        clear hx2 hx3 HL2 HL3 hc2 hc3 hr2' hr3 HB
        obtain ⟨p, q, ps, qs, P, Q, a, b, ca, cb, rfl, rfl, hgk, np, nq, lp, lq, hca, hcb, hP, hQ, HG, p0, pl, ql, HB⟩ := hrel
        have la := np.le (k := 262144) pl.out
        have lb := nq.le (k := 262144) ql.out
        rw [lp.out] at la
        rw [lq.out] at lb
        by_cases hb0 : b = 0
        · subst hb0
          have q0 : q = 0 := by
            have := List.eq_nil_of_length_eq_zero lq.out
            rw [this] at nq
            exact nq.val.symm
          have FIN : Hid (gcdI U V = 2 ^ (min t1 t2) * nv ps) := by
            show _ = _
            rw [FG.out, ← HG.out, q0, gcdI_zero_right (Int.le_of_lt p0), np.val]
          obtain ⟨s, hs⟩ : ∃ s, min t1 t2 / 32 = s := ⟨_, rfl⟩
          obtain ⟨M, hM⟩ : ∃ M, min t1 t2 = M := ⟨_, rfl⟩
          rw [hM] at FIN hs
          have hM2 : min (t1 : Int) (t2 : Int) = (M : Int) := by omega
          have hM3 : M ≤ 8388608 := by omega
          obtain ⟨L, hL⟩ : ∃ L, s + a + 1 = L := ⟨_, rfl⟩
          have CL := Lib.hid (lift_any P a ca M s L ps wr lp.out hP np.all (by omega) hs (by omega) hL)
          have hL1 : L ≤ 1048576 := by omega
          clear q0 hgk hs hM hL
          go_wp2_with fail
          refine CL.out.mono ?_
          rintro e w4 ⟨zs, g, Z, rfl, hg, BZ, hb4⟩
          have HLz := Lib.hid Z.len
          go_wp2_with fail
          refine (trim_any (some ⟨g, 0, none⟩) L L zs w4 HLz.out (Nat.le_refl _) BZ.words (by omega)).mono ?_
          rintro e w5 ⟨ts, A', m', c', T, rfl, hmc, hra, hfr, rfl⟩
          have fin2 : IsNat (gcdI U V) ts := by have := T.nat Z.all; rw [Z.val, ← FIN.out] at this; exact this
          have HB4 := Lib.hid (bel_trans HB.out hb4)
          have hg' := Nat.le_trans HB.out.size hg
          go_wp2_with fail
          go_ret
          exact ret_nat fin2 T.len hmc hra hfr hg' HB4.out
        · have hb1 : (0 : Int) < (b : Int) := by omega
          have hq0 : 0 < q := nq.pos (by rw [lq.out]; exact hb0)
          have VP := Lib.hid np.val
          have VQ := Lib.hid nq.val
          clear hb0
          have GK := Lib.hid hgk
          clear hgk
          go_wp2_with fail
          refine (ndiv_pos P Q a b ca cb ps qs wr lp.out lq.out hca hcb hP hQ np.all nq.all (by omega) (by omega) (by rw [VQ.out]; omega)).mono ?_
          rw [VP.out, VQ.out]
          rintro e w4 ⟨us4, vs4, A4, B4, n4, m4, c4, d4, h1, h2, h3, h4, rfl, h5, h6, h7, h8, -, -, hb4⟩
          have HG2 : Hid (gcdI q (p % q) = gcdI x y) := (gcdI_step (Int.le_of_lt p0) (Int.le_of_lt hq0)).trans HG.out
          have r0 := Int.emod_nonneg p (Int.ne_of_gt hq0)
          have r1 := Int.emod_lt_of_pos p hq0
          have LR : Hid (p % q < 2 ^ (32 * 262144)) := by
            show _ < _
            have := ql.out
            omega
          have hQ4 := hQ.below hb4 (Nat.le_refl _)
          have HB4 := Lib.hid (bel_trans HB.out hb4)
          have HL4 := Lib.hid h4
          clear h1 h3 h4 h5 h7 hb4 HB hP hQ HG
          go_wp2_with fail
          go_roundg (p % q).toNat
          case measure => rw [GK.out]; omega
          case rel => exact ⟨q, p % q, qs, vs4, Q, B4, b, m4, cb, d4, rfl, rfl, rfl, nq, h2, lq, HL4, hcb, h6, hQ4, h8, HG2, hq0, ql, LR, HB4⟩
end Go.Proofs.YtaollppieonmbaaDoor
