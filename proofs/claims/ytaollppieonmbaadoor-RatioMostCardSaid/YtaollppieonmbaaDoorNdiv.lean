/-
  Contracts of nat's divLong and of slices.Clone at numbers. Conditions: at most 2^20 words, each of 32 bits; no noughts at the ends; the divisor is not nought and has no more words than the dividend.
-/
import Derived.Test.YtaollppieonmbaaDoorNstep
namespace Go.Proofs.YtaollppieonmbaaDoor
open Go.RowKit
set_option maxRecDepth 100000

/-- The quotient's words from K on are found; zs is what is left. -/
structure LongTo (U V : Int) (zs qs : List Int) (L nq K : Nat) : Prop where
  lz : zs.length = L
  az : AllW zs
  lq : qs.length = nq
  aq : AllW qs
  eq : nv zs + nv qs * V = U
  lt : nv zs < V * 2 ^ (32 * K)
  low : ∀ j, j < K → qs.getD j 0 = 0
theorem LongTo.next {U : Int} {vs zs qs us : List Int} {L nq i : Nat} {q : Int} (h : LongTo U (nv vs) zs qs L nq (i + 1)) (hi : i < nq) (hq : W32 q) (hl : us.length = zs.length) (ha : AllW us) (e : nv zs = nv us + 2 ^ (32 * i) * (nv vs * q)) (hlt : nv us < nv vs * 2 ^ (32 * i)) : LongTo U (nv vs) us (qs.set i q) L nq i := by
  obtain ⟨h1, h2, h3, h4, h5, h6, h7⟩ := h
  refine ⟨by rw [hl, h1], ha, by rw [List.length_set, h3], h4.set _ hq, ?_, hlt, fun j hj => ?_⟩
  · rw [nv_set _ _ _ (by omega), h7 i (by omega), Int.sub_zero, Int.add_mul, Int.mul_assoc, Int.mul_comm q]
    omega
  · rw [getD_set_ne _ _ _ _ (by omega)]
    exact h7 j (by omega)
theorem LongTo.done {U V : Int} {N : Nat} {zs qs : List Int} {L nq : Nat} (h : LongTo (2 ^ N * U) (2 ^ N * V) zs qs L nq 0) : nv qs = U / V ∧ nv zs / 2 ^ N = U % V := by
  obtain ⟨h1, h2, h3, h4, h5, h6, h7⟩ := h
  have p := pow_pos' N
  have z0 := nv_nonneg zs h2
  have z1 : nv zs < 2 ^ N * V := by simpa using h6
  have vp : 0 < 2 ^ N * V := by omega
  have e1 : nv qs = (2 ^ N * U) / (2 ^ N * V) := by
    rw [← h5, Int.add_mul_ediv_right _ _ (Int.ne_of_gt vp), Int.ediv_eq_zero_of_lt z0 z1, Int.zero_add]
  have e2 : nv zs = (2 ^ N * U) % (2 ^ N * V) := by
    rw [← h5, Int.add_mul_emod_self_right, Int.emod_eq_of_lt z0 z1]
  rw [Int.mul_ediv_mul_of_pos _ _ p] at e1
  rw [Int.mul_emod_mul_of_pos _ _ p] at e2
  refine ⟨e1, ?_⟩
  rw [e2, Int.mul_ediv_cancel_left _ (Int.ne_of_gt p)]

/-- A call came back with two numbers in memory of its own. -/
def RetN2 (q r : Int) (w : World) (e : Ending) (w' : World) : Prop :=
  ∃ (us vs : List Int) (A B : Option Addr) (n m c d : Nat), IsNat q us ∧ IsNat r vs ∧ us.length = n ∧ vs.length = m ∧ e = .returned (.tuple #[.slice A n c, .slice B m d]) ∧ n ≤ c ∧ m ≤ d ∧ Rn w' A us ∧ Rn w' B vs ∧ (∀ a, A = some a → w.heap.size ≤ a.block) ∧ (∀ a, B = some a → w.heap.size ≤ a.block) ∧ Below w.heap.size w w'

set_option maxHeartbeats 6400000 in
theorem divLong_any (A B : Option Addr) (n m c d : Nat) (us vs : List Int) (U V : Int) (w : World) (hn : us.length = n) (hm : vs.length = m) (hx : Rn w A us) (hy : Rn w B vs) (hu : IsNat U us) (hv : IsNat V vs) (hm0 : 0 < m) (hmn : m ≤ n) (ln : n ≤ 1048576) :
    Calls Tryd.prog 83 #[.slice A n c, .slice B m d] w (RetN2 (U / V) (U % V) w) := by
  have HN := Lib.hid hn
  have HM := Lib.hid hm
  obtain ⟨i, hi⟩ : ∃ i, m = i + 1 := ⟨m - 1, by omega⟩
  obtain ⟨g0, off0, rfl, hg0, hc0⟩ := hy.at_ (i := i) (by omega)
  have wt := hv.all.getD i
  have ht : vs.getD i 0 ≠ 0 := by
    have := tlen_top vs (by rw [hv.trim]; omega)
    rw [hv.trim, hm, hi] at this
    exact this
  have eV : V = nv (vs.take i) + 2 ^ (32 * i) * vs.getD i 0 := by
    rw [← nv_take_succ, ← hi, List.take_of_length_le (by omega), hv.val]
  have lV0 := nv_nonneg _ (hv.all.take i)
  have lV1 := nv_lt _ (hv.all.take i)
  have lV2 := pow_mono (32 * (vs.take i).length) (32 * i) (by rw [List.length_take]; omega)
  generalize vs.getD i 0 = tp at *
  obtain ⟨b, eb, blt, bge, _⟩ := blen_spec wt.1
  obtain ⟨b1, b2⟩ := bge (by have := wt.1; omega)
  have hb32 := (blen_bd (k := 32) wt.1 wt.2).2
  rw [eb] at hb32
  have LZ := Lib.hid (fun w => lz32 tp wt w)
  rw [eb] at LZ
  obtain ⟨N, hN⟩ : ∃ N, 32 - b = N := ⟨_, rfl⟩
  have eN : 32 - (b : Int) = (N : Int) := by omega
  rw [eN] at LZ
  have hN31 : N ≤ 31 := by omega
  -- the lifted divisor has as many words
  have p1 := pow_pos' N
  have hV0 := hv.nonneg
  have hV1 : 2 ^ N * V < 2 ^ (32 * m) := by
    have h1 : V < 2 ^ (32 * i) * 2 ^ b := by
      have : (2 : Int) ^ (32 * i) * (tp + 1) ≤ 2 ^ (32 * i) * 2 ^ b := Int.mul_le_mul_of_nonneg_left (by omega) (Int.le_of_lt (pow_pos' _))
      rw [Int.mul_add, Int.mul_one] at this
      omega
    have h2 : 2 ^ N * V < 2 ^ N * (2 ^ (32 * i) * 2 ^ b) := Int.mul_lt_mul_of_pos_left h1 p1
    rw [← Int.pow_add, ← Int.pow_add, show N + (32 * i + b) = 32 * m by omega] at h2
    exact h2
  have hVp : 0 < V := hv.pos (by omega)
  have hVge : V ≤ 2 ^ N * V := by
    have : 1 * V ≤ 2 ^ N * V := Int.mul_le_mul_of_nonneg_right (by omega) (by omega)
    omega
  have hVlo : (2 : Int) ^ (32 * i) ≤ V := by
    have := tlen_pos hv.all (by rw [hv.trim]; omega)
    rw [hv.trim, hm, hv.val, hi] at this
    exact this
  have hU1 : U < V * 2 ^ (32 * (n - m + 1)) := by
    have h1 := nv_lt us hu.all
    rw [hu.val, hn] at h1
    have h2 : (2 : Int) ^ (32 * i) * 2 ^ (32 * (n - m + 1)) ≤ V * 2 ^ (32 * (n - m + 1)) := Int.mul_le_mul_of_nonneg_right hVlo (Int.le_of_lt (pow_pos' _))
    rw [← Int.pow_add, show 32 * i + 32 * (n - m + 1) = 32 * n by omega] at h2
    omega
  have HV1 := Lib.hid hV1
  have HVge := Lib.hid hVge
  have HVlo := Lib.hid hVlo
  have HU1 := Lib.hid hU1
  have HVal := Lib.hid hv.val
  have HUal := Lib.hid hu.val
  have av := hv.all
  have au := hu.all
  have e1 : (m : Int) - 1 = (i : Int) := by omega
  have hl1 : (i : Int) < (m : Int) := by omega
  have HI := Lib.hid hi
  clear hn hm hi eV lV0 lV1 lV2 eb blt bge b1 b2 hN eN hV1 hVge hVlo hU1 hu hv p1
  obtain ⟨nq, hnq⟩ : ∃ nq, n - m + 1 = nq := ⟨_, rfl⟩
  obtain ⟨r0, hr0⟩ : ∃ r0, r0 = List.replicate nq (0 : Int) := ⟨_, rfl⟩
  have hmk := Lib.hid (run_make_nat ((n : Int) - (m : Int) + 1) nq (by omega) (by omega) r0 hr0)
  have HR0 := Lib.hid hr0
  have hnq1 : nq + m ≤ n + 1 := by omega
  have hnq2 : n + 1 ≤ nq + m := by omega
  clear hr0 
  have HNQ := Lib.hid hnq
  clear hnq
  go_enter Tryd.func83, Tryd.ntmps83
  go_wp2_with fail
  refine (LZ.out _).mono ?_
  rintro e w1 ⟨rfl, rfl⟩
  clear LZ e1 hc0
  go_wp2_with fail
  refine (lift_any A n c N 0 (n + 1) us w HN.out hx au ln (by omega) (by omega) (by omega)).mono ?_
  rintro e w1 ⟨zs, g1, Z1, rfl, hg1, BZ, HB1⟩
  have hy1 := hy.below HB1 (Nat.le_refl _)
  go_wp2_with fail
  refine (lift_any _ m d N 0 (m + 1) vs w1 HM.out hy1 av (by omega) (by omega) (by omega) (by omega)).mono ?_
  rintro e w2 ⟨ys, g2, Z2, rfl, hg2, BY, HB2⟩
  have BZ2 := BZ.below HB2 BZ.lt
  have hLY := Lib.hid Z2.len
  have hg12 : g1 ≠ g2 := by have := BZ.lt; omega
  go_wp2_with fail
  refine (trim_any (some ⟨g2, 0, none⟩) (m + 1) (m + 1) ys w2 hLY.out (Nat.le_refl _) BY.words (by omega)).mono ?_
  rintro e w3 ⟨ts, A', m', c', T, rfl, hmc, hra, hfr, rfl⟩
  have NT : IsNat (2 ^ N * V) ts := by have := T.nat Z2.all; rw [Z2.val, HVal.out] at this; exact this
  obtain rfl : m = m' := by
    have h1 := NT.le (k := m) HV1.out
    have h3 : m - 1 < ts.length := by
      have h4 := nv_lt ts NT.all
      rw [NT.val] at h4
      have h5 := HVge.out
      have h6 := HVlo.out
      have h7 := HI.out
      have := pow32_lt (a := i) (b := ts.length) (by omega)
      omega
    rw [T.len] at h1 h3
    omega
  have LT := Lib.hid T.len
  have EV : Hid (nv ts = 2 ^ N * V) := NT.val
  have at_ := NT.all
  have tt : ts.getD (m - 1) 0 ≠ 0 := by
    have h8 := NT.trim
    rw [T.len] at h8
    have := tlen_top ts (by rw [h8]; omega)
    rw [h8] at this
    exact this
  have ET : Hid (LongTo (2 ^ N * U) (nv ts) zs r0 (n + 1) nq nq) := by
    refine ⟨Z1.len, Z1.all, by rw [HR0.out]; simp, by rw [HR0.out]; exact AllW.zeros _, ?_, ?_, fun j _ => by rw [HR0.out, List.getD_eq_getElem?_getD, List.getElem?_replicate]; split <;> rfl⟩
    · rw [HR0.out, nv_zeros, Z1.val, HUal.out]
      omega
    · rw [Z1.val, EV.out, HUal.out, Int.mul_assoc, ← HNQ.out]
      exact Int.mul_lt_mul_of_pos_left HU1.out (pow_pos' N)
  have HBW := Lib.hid (bel_trans HB1 HB2)
  have hBlt : g1 < w2.heap.size := BZ2.lt
  have hA' : Hid (∀ a, A' = some a → a.block ≠ g1) := fun a ha => by
    have := hfr a ha
    injection this with this
    rw [← this]
    exact fun h => hg12 h.symm
  have hAq : Hid (∀ a, A' = some a → a.block = g2) := fun a ha => by
    have := hfr a ha
    injection this with this
    rw [← this]
  have hg2q : w2.heap.size ≠ g2 := by have := BY.lt; omega
  have hw2 : w.heap.size ≤ w2.heap.size := HBW.out.size
  have hmk' := hmk.out
  clear T NT hfr BY BZ hLY Z1 Z2 HB1 HB2 hy1 hx hy hmk av au HV1 HVge HVlo HU1
  go_wp2_with fail
  clear hmk'
  go_loopw [34] (fun s34 wr => ∃ (k K : Nat) (zs qs : List Int), s34 = .int .i64 (k : Int) ∧ k + K = nq ∧ LongTo (2 ^ N * U) (nv ts) zs qs (n + 1) nq K ∧ Blk wr g1 80 (wordArr zs) ∧ Blk wr w2.heap.size 80 (wordArr qs) ∧ Rn wr A' ts ∧ Hid (Below w.heap.size w wr)) (fun s34 _ => nq - (intOf s34).toNat)
  case atStart => exact ⟨0, nq, zs, r0, rfl, by omega, ET.out, BZ2.alloc _, Blk.new _ _ _, hra.alloc _, bel_alloc HBW.out _⟩
  case round =>
    clear ET BZ2 hra HBW
    obtain ⟨k, K, zs, qs, rfl, hkK, T, BZ, BQ, yr, HB⟩ := hrel
    by_cases h0 : K = 0
    · subst h0
      have T' := T
      rw [EV.out] at T'
      obtain ⟨d1, d2⟩ := T'.done
      have D1 := Lib.hid d1
      have D2 := Lib.hid d2
      have aq := T.aq
      have az := T.az
      have lq := Lib.hid T.lq
      have lz := Lib.hid T.lz
      have hkn : nq ≤ k := by omega
      clear d1 d2 T T' hkK
      go_wp2_with fail
      refine (trim_any (some ⟨w2.heap.size, 0, none⟩) nq nq qs wr lq.out (Nat.le_refl _) BQ.words (by omega)).mono ?_
      rintro e w4 ⟨ps, A4, m4, c4, T4, rfl, hmc4, hra4, hfr4, rfl⟩
      have fin1 : IsNat (U / V) ps := by have := T4.nat aq; rw [D1.out] at this; exact this
      have L4 := Lib.hid T4.len
      have hf4 : Hid (∀ a, A4 = some a → w.heap.size ≤ a.block) := fun a h => by
        injection hfr4 a h with h
        rw [← h]
        show w.heap.size ≤ w2.heap.size
        omega
      clear T4 hfr4
      go_wp2_with fail
      refine (nshr_any (some ⟨g1, 0, none⟩) (n + 1) (n + 1) zs (N : Int) wr lz.out (Nat.le_refl _) BZ.words az (by omega) (by omega)).mono ?_
      rw [show (max (N : Int) 0).toNat = N by omega, D2.out]
      rintro e w5 ⟨rs, A5, m5, c5, n5, l5, rfl, hmc5, hra5, hfr5, hb5⟩
      have hra4' := hra4.below hb5 (Nat.le_refl _)
      have HB5 := Lib.hid (bel_trans HB.out hb5)
      have L5 := Lib.hid l5
      have hf5 : Hid (∀ a, A5 = some a → w.heap.size ≤ a.block) := fun a h => Nat.le_trans HB.out.size (hfr5 a h)
      clear l5 hfr5 hb5 HB hra4
      go_wp2_with fail
      go_ret2
      exact ⟨ps, rs, A4, A5, m4, m5, c4, c5, fin1, n5, L4.out, L5.out, rfl, hmc4, hmc5, hra4', hra5, hf4.out, hf5.out, HB5.out⟩
    · obtain ⟨j, rfl⟩ : ∃ j, K = j + 1 := ⟨K - 1, by omega⟩
      have S : StepIn ts zs j m := ⟨LT.out, hm0, tt, at_, T.az, by rw [T.lz]; omega, T.lt⟩
      have TN : Hid (∀ us q, W32 q → us.length = zs.length → AllW us → nv zs = nv us + 2 ^ (32 * j) * (nv ts * q) → nv us < nv ts * 2 ^ (32 * j) → LongTo (2 ^ N * U) (nv ts) us (qs.set j q) (n + 1) nq j) := fun us q h1 h2 h3 h4 h5 => T.next (by omega) h1 h2 h3 h4 h5
      have lq := Lib.hid T.lq
      have e1 : (nq : Int) - 1 - (k : Int) = (j : Int) := by omega
      have hl1 : (k : Int) < (nq : Int) := by omega
      have hl2 : (j : Int) + (m : Int) + 1 ≤ (n : Int) + 1 := by omega
      have hl3 : (j : Int) < (nq : Int) := by omega
      have HK2 : Hid (k + 1 + j = nq) := by show _ = _; omega
      have hgq : w2.heap.size ≠ g1 := by omega
      clear T h0 hkK
      go_wp2_with fail
      rw [show j + m + 1 - j = m + 1 by omega]
      refine (divStep_any A' g1 j (n + 1 - j) m c' ts zs wr S yr hA'.out BZ (by omega)).mono ?_
      rintro e w4 ⟨us', q, wq, hl, ha, heq, hlt, rfl, BZ4, O4⟩
      have T2 := TN.out us' q wq hl ha heq hlt
      have BQ4 := BQ.only O4 hgq
      have yr4 := yr.only O4 (fun _ => hA'.out)
      have HB4 := Lib.hid (O4.below HB.out hg1)
      have q0 := BQ4.word (i := j) (by rw [lq.out]; omega)
      have q1 := BQ4.frozen j
      have BQ5 := BQ4.set_ j (.int .u32 q)
      rw [wordArr_set] at BQ5
      have BZ5 := BZ4.far (p := ⟨w2.heap.size, j, none⟩) (fun h => hgq h.symm) (.int .u32 q)
      have yr5 : Rn (w4.setCell ⟨w2.heap.size, j, none⟩ (.int .u32 q)) A' ts := yr4.far (fun a ha => by rw [hAq.out a ha]; exact hg2q) _
      have HB5 : Hid (Below w.heap.size w (w4.setCell ⟨w2.heap.size, j, none⟩ (.int .u32 q))) := bel_set HB4.out hw2 _
      clear heq hlt hl TN S BZ BQ yr HB BZ4 BQ4 yr4 HB4 O4
      go_wp2_with fail
      go_roundw
      case rel => exact ⟨k + 1, j, us', _, by go_num, HK2.out, T2, BZ5, BQ5, yr5, HB5⟩
      case measure => simp [intOf]; omega
end Go.Proofs.YtaollppieonmbaaDoor
