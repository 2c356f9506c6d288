/-
  Contracts of round.scale, Frac, Exact and Ulp. Conditions: numbers of not too many words.
-/
import Derived.Test.YtdjhpplcdkgfgaaDoorRndq
namespace Go.Proofs.YtdjhpplcdkgfgaaDoor
open Go.RowKit
set_option maxRecDepth 100000

theorem nuintV {w : World} {x : Value} {p : Int} {L : Nat} (h : NatV w x p L) (hL : L ≤ 1048576) : Calls Tryd.prog 49 #[x] w fun e w' => e = .returned (.tuple #[.int .u64 (uintV p), .bool (decide (p < 18446744073709551616))]) ∧ w = w' := by
  obtain ⟨A, n, c, us, rfl, hn, hc, hr, ha, rfl, hl⟩ := h
  exact nuint_any A n c us w hn hc hr ha (by omega)

set_option maxHeartbeats 1000000 in
theorem scale_any {w : World} {x : Value} {p : Int} {L : Nat} (h : NatV w x p L) (n : Int) (hL : L ≤ 65536) (hn : -10000 ≤ n) (hn' : n ≤ 1300) : Calls Tryd.prog 47 #[x, .int .i64 n] w (RetV (fun w v => NatV w v (p * 2 ^ (max n 0).toNat) (L + 42)) w) := by
  have hk : 2 ^ (max n 0).toNat * (1 : Int) < 2 ^ (32 * 42) := by
    rw [Int.mul_one]
    have := pow_mono ((max n 0).toNat + 1) (32 * 42) (by omega)
    have h2 := pow_pos' (max n 0).toNat
    rw [Int.pow_succ] at this
    omega
  have HK := Lib.hid hk
  clear hk
  obtain ⟨A, m, c, us, hx⟩ := h
  obtain ⟨rfl, hx2⟩ := hx
  have hx : NatV w (.slice A m c) p L := ⟨A, m, c, us, rfl, hx2⟩
  clear hx2
  go_enter Tryd.func47, Tryd.ntmps47
  go_wp2_with fail
  refine (newV 1 ⟨by decide, by decide⟩ _).mono ?_
  rintro e w1 ⟨v1, n1, rfl, hb1⟩
  obtain ⟨A1, m1, c1, us1, rfl, n1'⟩ := n1
  have n1 : NatV w1 (.slice A1 m1 c1) 1 2 := NatC.v ⟨A1, m1, c1, us1, rfl, n1'⟩
  clear n1'
  go_wp2_with fail
  refine (nshlV n1 n (by decide) (by intro _; rw [show blen 1 = 1 by decide]; omega) 42 HK.out).mono ?_
  rintro e w2 ⟨v2, n2, rfl, hb2⟩
  obtain ⟨A2, m2, c2, us2, rfl, n2'⟩ := n2
  have n2 : NatV w2 (.slice A2 m2 c2) (2 ^ (max n 0).toNat * 1) 42 := NatC.v ⟨A2, m2, c2, us2, rfl, n2'⟩
  clear n2'
  rw [Int.mul_one] at n2
  go_wp2_with fail
  refine (nmulV (hx.below (bel_trans hb1 hb2)) n2 (by omega) (by decide)).mono ?_
  rintro e w3 ⟨v3, n3, rfl, hb3⟩
  obtain ⟨A3, m3, c3, us3, rfl, n3'⟩ := n3
  go_wp2_with fail
  go_ret
  exact ⟨_, NatC.v ⟨A3, m3, c3, us3, rfl, n3'⟩, rfl, bel_trans (bel_trans hb1 hb2) hb3⟩

def RetF (f g : Int) (w : World) (e : Ending) (w' : World) : Prop := e = .returned (.tuple #[.int .u64 f, .int .u8 g]) ∧ Below w.heap.size w w'

set_option maxHeartbeats 2000000 in
theorem frac_zero {w : World} {x y : Value} {p q : Int} {L M : Nat} (h : NatV w x p L) (k : NatV w y q M) (neg : Bool) (md : Int) (hL : L ≤ 65536) (hM : M ≤ 65536) (h0 : p = 0 ∨ q = 0) : Calls Tryd.prog 16 #[.bool neg, x, y, .int .u8 md] w (RetF 0 0 w) := by
  obtain ⟨A, m, c, rfl⟩ := h.form
  obtain ⟨B, n, d, rfl⟩ := k.form
  by_cases hp : p = 0
  · have z : blen p = 0 := by rw [hp]; decide
    go_enter Tryd.func16, Tryd.ntmps16
    go_wp2_with fail
    refine (nlenV h (by omega)).mono ?_
    rintro e w1 ⟨rfl, rfl⟩
    rw [z]
    go_wp2_with fail
    go_ret2
    exact ⟨rfl, Below.refl _ _⟩
  · have hq : q = 0 := by omega
    have z : blen q = 0 := by rw [hq]; decide
    have z1 : (blen p == 0) = false := by
      have := h.nonneg
      obtain ⟨j, e1, _, _⟩ := blen_at (a := p) (by omega)
      rw [e1]
      simp
      omega
    go_enter Tryd.func16, Tryd.ntmps16
    go_wp2_with fail
    refine (nlenV h (by omega)).mono ?_
    rintro e w1 ⟨rfl, rfl⟩
    go_wp2_with fail
    refine (nlenV k (by omega)).mono ?_
    rintro e w1 ⟨rfl, rfl⟩
    rw [z]
    go_wp2_with fail
    go_ret2
    exact ⟨rfl, Below.refl _ _⟩

theorem V2_low (x : Int) : V2 0 x = x := by unfold V2; omega
set_option maxHeartbeats 4000000 in
theorem frac_pos {w : World} {x y : Value} {p q : Int} {L M : Nat} (h : NatV w x p L) (k : NatV w y q M) (neg : Bool) (md : Int) (hL : L ≤ 65536) (hM : M ≤ 65536) (hp : 0 < p) (hq : 0 < q) : Calls Tryd.prog 16 #[.bool neg, x, y, .int .u8 md] w (RetF (rF md neg (nX p q) (sX p q)) (rG md neg (nX p q) (sX p q)) w) := by
  obtain ⟨A, m, c, rfl⟩ := h.form
  obtain ⟨B, n, d, rfl⟩ := k.form
  have b1 : 1 ≤ blen p ∧ blen p ≤ 32 * 65536 := by
    obtain ⟨j, e1, _, _⟩ := blen_at hp
    have := blen_le2 (k := 32 * L) (Int.le_of_lt hp) h.lt
    omega
  have b2 : 1 ≤ blen q ∧ blen q ≤ 32 * 65536 := by
    obtain ⟨j, e1, _, _⟩ := blen_at hq
    have := blen_le2 (k := 32 * M) (Int.le_of_lt hq) k.lt
    omega
  have z1 : (blen p == 0) = false := by simp; omega
  have z2 : (blen q == 0) = false := by simp; omega
  by_cases hfar : blen p - blen q < -1200 ∨ 1200 < blen p - blen q
  · have F := frac_far hp hq hfar md neg
    have RP := fun w => round_pos neg 0 1 (blen p - blen q) false md ⟨by decide, by decide⟩ ⟨by decide, by decide⟩ (by decide) w _ _ rfl rfl
    rw [V2_low, Bool.false_and] at RP
    rw [F.1, F.2] at RP
    have RP' := Lib.hid RP
    clear RP F
    have HP := Lib.hid hp
    have HQ := Lib.hid hq
    have NP := nlenV h (by omega)
    have NQ := nlenV k (by omega)
    generalize blen p = bp at *
    generalize blen q = bq at *
    by_cases hlo : bp - bq < -1200
    · go_enter Tryd.func16, Tryd.ntmps16
      go_wp2_with fail
      refine NP.mono ?_
      rintro e w1 ⟨rfl, rfl⟩
      go_wp2_with fail
      refine NQ.mono ?_
      rintro e w1 ⟨rfl, rfl⟩
      go_wp2_with fail
      refine NP.mono ?_
      rintro e w1 ⟨rfl, rfl⟩
      go_wp2_with fail
      refine NQ.mono ?_
      rintro e w1 ⟨rfl, rfl⟩
      go_wp2_with fail
      refine (RP'.out _).mono ?_
      rintro e w2 ⟨rfl, hb⟩
      go_wp2_with fail
      go_ret2
      exact ⟨rfl, hb⟩
    · have hhi : 1200 < bp - bq := by omega
      go_enter Tryd.func16, Tryd.ntmps16
      go_wp2_with fail
      refine NP.mono ?_
      rintro e w1 ⟨rfl, rfl⟩
      go_wp2_with fail
      refine NQ.mono ?_
      rintro e w1 ⟨rfl, rfl⟩
      go_wp2_with fail
      refine NP.mono ?_
      rintro e w1 ⟨rfl, rfl⟩
      go_wp2_with fail
      refine NQ.mono ?_
      rintro e w1 ⟨rfl, rfl⟩
      go_wp2_with fail
      refine (RP'.out _).mono ?_
      rintro e w2 ⟨rfl, hb⟩
      go_wp2_with fail
      go_ret2
      exact ⟨rfl, hb⟩
  · obtain ⟨up, hup⟩ : ∃ up, up = 63 - (blen p - blen q) := ⟨_, rfl⟩
    obtain ⟨hd, hb63, hlt⟩ := quot_bd hp hq hup
    obtain ⟨Q, hQ⟩ : ∃ Q, Q = p * 2 ^ (max up 0).toNat / (q * 2 ^ (max (-up) 0).toNat) := ⟨_, rfl⟩
    obtain ⟨R, hR⟩ : ∃ R, R = p * 2 ^ (max up 0).toNat % (q * 2 ^ (max (-up) 0).toNat) := ⟨_, rfl⟩
    have F := frac_near hp hq hup md neg Q R hQ hR
    rw [← hQ] at hb63 hlt
    have hQ0 : 0 < Q := by
      rcases Int.lt_trichotomy 0 Q with h | h | h
      · exact h
      · rw [← h, blen_nought] at hb63; omega
      · have : 0 ≤ Q := by rw [hQ]; exact Int.ediv_nonneg (Int.mul_nonneg (Int.le_of_lt hp) (Int.le_of_lt (pow_pos' _))) (Int.le_of_lt hd)
        omega
    have RP := fun w => round_pos neg 0 Q (-up) (decide (R ≠ 0)) md ⟨by decide, by decide⟩ ⟨Int.le_of_lt hQ0, hlt⟩ (by rw [V2_low]; exact hQ0) w _ _ rfl rfl
    have eup : eC (-up) = -up := by unfold eC; omega
    rw [V2_low, eup] at RP
    rw [F.1, F.2] at RP
    have RP' := Lib.hid RP
    clear RP F
    have hR0 : 0 ≤ R := by rw [hR]; exact Int.emod_nonneg _ (Int.ne_of_gt hd)
    have z3 : decide (0 < blen R) = decide (R ≠ 0) := by
      rw [Bool.eq_iff_iff, decide_eq_true_eq, decide_eq_true_eq]
      constructor
      · intro h h2
        rw [h2, blen_nought] at h
        omega
      · intro h
        obtain ⟨j, e1, _, _⟩ := blen_at (a := R) (by omega)
        omega
    have bR := blen_nn R
    have hup1 : -1137 ≤ up ∧ up ≤ 1263 := by omega
    have hup2 : 63 - (blen p - blen q) = up := hup.symm
    have HD := Lib.hid hd
    have HQ := Lib.hid hQ
    have HR := Lib.hid hR
    have HQ0 := Lib.hid hQ0
    have HL := Lib.hid hlt
    have HP := Lib.hid hp
    have HPq := Lib.hid hq
    have eU : uintV Q = Q := by unfold uintV; rw [if_pos hlt]
    have Eu := Lib.hid eU
    have NP := nlenV h (by omega)
    have NQ := nlenV k (by omega)
    clear hd hb63 hQ hR hQ0 hlt eU eup hp hq hup
    generalize blen p = bp at *
    generalize blen q = bq at *
    have t1 : decide (bp - bq < -1200) = false := by simp; omega
    have t2 : decide (1200 < bp - bq) = false := by simp; omega
    go_enter Tryd.func16, Tryd.ntmps16
    go_wp2_with fail
    refine NP.mono ?_
    rintro e w1 ⟨rfl, rfl⟩
    go_wp2_with fail
    refine NQ.mono ?_
    rintro e w1 ⟨rfl, rfl⟩
    go_wp2_with fail
    refine NP.mono ?_
    rintro e w1 ⟨rfl, rfl⟩
    go_wp2_with fail
    refine NQ.mono ?_
    rintro e w1 ⟨rfl, rfl⟩
    go_wp2_with fail
    refine (scale_any h up (by omega) (by omega) (by omega)).mono ?_
    rintro e w1 ⟨v1, n1, rfl, hb1⟩
    obtain ⟨A1, m1, c1, rfl⟩ := n1.form
    go_wp2_with fail
    refine (scale_any (k.below hb1) (-up) (by omega) (by omega) (by omega)).mono ?_
    rintro e w2 ⟨v2, n2, rfl, hb2⟩
    obtain ⟨A2, m2, c2, rfl⟩ := n2.form
    go_wp2_with fail
    refine (ndivV (n1.below hb2) n2 (by omega) (by omega) (Int.ne_of_gt HD.out)).mono ?_
    rintro e w3 ⟨v3, v4, n3, n4, rfl, hb3⟩
    rw [← HQ.out] at n3
    rw [← HR.out] at n4
    obtain ⟨A3, m3, c3, rfl⟩ := n3.form
    obtain ⟨A4, m4, c4, rfl⟩ := n4.form
    go_wp2_with fail
    refine (nuintV n3.v (by omega)).mono ?_
    rintro e w4 ⟨rfl, rfl⟩
    rw [Eu.out]
    have HB := Lib.hid (bel_trans (bel_trans hb1 hb2) hb3)
    clear hb1 hb2 hb3
    go_wp2_with fail
    refine (nlenV n4.v (by omega)).mono ?_
    rintro e w4 ⟨rfl, rfl⟩
    generalize decide (R ≠ 0) = rb at *
    generalize blen R = bR' at *
    go_wp2_with fail
    refine (RP'.out _).mono ?_
    rintro e w5 ⟨rfl, hb5⟩
    go_wp2_with fail
    go_ret2
    exact ⟨rfl, bel_trans HB.out hb5⟩

/-- A rational number, rounded. -/
def dF (md : Int) (r : Rat) : Int := if r = 0 then 0 else rF md (rs r) (nX (rp r) (rq r)) (sX (rp r) (rq r))
def dG (md : Int) (r : Rat) : Int := if r = 0 then 0 else rG md (rs r) (nX (rp r) (rq r)) (sX (rp r) (rq r))
theorem nX_low {s : Bool} {p q : Int} (hp : 0 < p) (hq : 0 < q) : rs (rv s p q) = s ∧ nX (rp (rv s p q)) (rq (rv s p q)) = nX p q ∧ sX (rp (rv s p q)) (rq (rv s p q)) = sX p q := by
  obtain ⟨a1, a2, a3⟩ := low_of (s := s) hp hq
  have hg := gcd_pos (q := q) hp
  have d1 : gcdI p q ∣ p := by
    obtain ⟨a, rfl⟩ := Int.eq_ofNat_of_zero_le (Int.le_of_lt hp)
    obtain ⟨b, rfl⟩ := Int.eq_ofNat_of_zero_le (Int.le_of_lt hq)
    exact Int.ofNat_dvd.2 (Nat.gcd_dvd_left _ _)
  have d2 : gcdI p q ∣ q := by
    obtain ⟨a, rfl⟩ := Int.eq_ofNat_of_zero_le (Int.le_of_lt hp)
    obtain ⟨b, rfl⟩ := Int.eq_ofNat_of_zero_le (Int.le_of_lt hq)
    exact Int.ofNat_dvd.2 (Nat.gcd_dvd_right _ _)
  have s := nX_scale (p := p / gcdI p q) (q := q / gcdI p q) hg
  rw [Int.ediv_mul_cancel d1, Int.ediv_mul_cancel d2] at s
  refine ⟨a1, ?_, ?_⟩
  · rw [a2, a3]; exact s.1.symm
  · rw [a2, a3]; exact s.2.symm

theorem frac_any {w : World} {y z : Value} {p q : Int} {L : Nat} (s : Bool) (hy : NatV w y p L) (hz : NatV w z q L) (md : Int) (hL : L ≤ 65536) (r : Rat) (hr : rv s p q = r) : Calls Tryd.prog 16 #[.bool s, y, z, .int .u8 md] w (RetF (dF md r) (dG md r) w) := by
  subst hr
  by_cases h0 : p = 0 ∨ q = 0
  · rw [show dF md (rv s p q) = 0 by unfold dF; rw [if_pos (rv_zero h0)], show dG md (rv s p q) = 0 by unfold dG; rw [if_pos (rv_zero h0)]]
    exact frac_zero hy hz s md hL hL h0
  · have hp : 0 < p := by have := hy.nonneg; omega
    have hq : 0 < q := by have := hz.nonneg; omega
    obtain ⟨e1, e2, e3⟩ := nX_low (s := s) hp hq
    have hne : ¬ rv s p q = 0 := by rw [rv_eq_zero (Int.le_of_lt hp) (Int.le_of_lt hq)]; exact h0
    have := frac_pos hy hz s md hL hL hp hq
    unfold dF dG
    rw [if_neg hne, if_neg hne, e1, e2, e3]
    exact this

set_option maxHeartbeats 2000000 in
theorem exact_f {w : World} {x y z : Value} {L : Nat} {r : Rat} (h : RV w x y z L r) (md : Int) (hL : L ≤ 65536) : Calls Tryd.prog 13 #[.agg #[x, y, z], .int .u8 md] w (RetF (dF md r) (dG md r) w) := by
  obtain ⟨s, p, q, rfl, hy, hz, hr⟩ := h
  obtain ⟨A, m, c, rfl⟩ := hy.form
  obtain ⟨B, n, d, rfl⟩ := hz.form
  have HR := Lib.hid hr
  clear hr
  go_enter Tryd.func13, Tryd.ntmps13
  go_wp2_with fail
  refine (frac_any s (hy.below (bel_alloc (Below.refl _ _) _)) (hz.below (bel_alloc (Below.refl _ _) _)) md hL r HR.out).mono ?_
  rintro e w1 ⟨rfl, hb⟩
  go_wp2_with fail
  go_ret2
  exact ⟨rfl, bel_trans (bel_alloc (Below.refl _ _) _) hb⟩

/-- What the last bit counts, as a power of two. -/
def uE (f : Int) : Int := if fC f = 0 then -1074 else fY f
theorem uE_bd (f : Int) : -1074 ≤ uE f ∧ uE f ≤ 972 := by
  unfold uE
  split
  · omega
  · exact fY_bd f
def p2F (e : Int) : Int := rF 0 false (rN 1 (eP e) (eQ e)) (rS 1 (eP e) (eQ e) false)
set_option maxHeartbeats 2000000 in
theorem ulp_any (f : Int) (hf : Word f) (w : World) : Calls Tryd.prog 26 #[.int .u64 f] w fun e w' => e = .returned (.int .u64 (if fC f < 3 then p2F (uE f) else 9221120237041090560)) ∧ Below w.heap.size w w' := by
  have hc := cls_bd f
  have SP := split_any f hf
  have CL := class_any f hf
  have hy := fY_bd f
  by_cases h : fC f < 3
  · rw [if_pos h]
    have e0 : eC (uE f) = uE f := by have := uE_bd f; unfold eC; omega
    have RP := fun w => round_pos false 0 1 (uE f) false 0 ⟨by decide, by decide⟩ ⟨by decide, by decide⟩ (by decide) w _ _ rfl rfl
    rw [V2_low, Bool.false_and, e0] at RP
    have RP' := Lib.hid RP
    clear RP
    have HU : Hid (uE f = if fC f = 0 then -1074 else fY f) := rfl
    generalize uE f = u at *
    generalize fC f = c at *
    have h3 : c = 0 ∨ c = 1 ∨ c = 2 := by omega
    rcases h3 with rfl | rfl | rfl
    all_goals
      have hu := HU.out
      simp at hu
      subst hu
      go_enter Tryd.func26, Tryd.ntmps26
      go_wp2_with fail
      refine (SP _).mono ?_
      rintro e w1 ⟨rfl, rfl⟩
      go_wp2_with fail
      refine (CL _).mono ?_
      rintro e w1 ⟨rfl, rfl⟩
      go_wp2_with fail
      refine (RP'.out _).mono ?_
      rintro e w2 ⟨rfl, hb⟩
      go_wp2_with fail
      go_ret
      exact ⟨rfl, hb⟩
  · rw [if_neg h]
    generalize fC f = c at *
    have h3 : c = 3 ∨ c = 4 := by omega
    rcases h3 with rfl | rfl
    all_goals
      go_enter Tryd.func26, Tryd.ntmps26
      go_wp2_with fail
      refine (SP _).mono ?_
      rintro e w1 ⟨rfl, rfl⟩
      go_wp2_with fail
      refine (CL _).mono ?_
      rintro e w1 ⟨rfl, rfl⟩
      go_wp2_with fail
      refine (quiet_f _).mono ?_
      rintro e w2 ⟨rfl, rfl⟩
      go_wp2_with fail
      go_ret
      exact ⟨rfl, Below.refl _ _⟩
end Go.Proofs.YtdjhpplcdkgfgaaDoor
