/-
  The contract of U128's Sqrt, for all words: the greatest number whose square is not above, and what is left. Conditions: the fields are words of 64 bits.
-/
import Derived.Test.YtbpgallhlfjgjaaExact
namespace Go.Proofs.Ytbpgallhlfjgjaa
open Go.RowKit

/-- The root is found but for its n lowest bits. -/
structure Rt (a r : Int) (n : Nat) : Prop where
  mul : ∃ c : Nat, r = ((c * 2 ^ n : Nat) : Int)
  lo : r * r ≤ a
  hi : a < (r + 2 ^ n) * (r + 2 ^ n)
  le : r + 2 ^ n ≤ 18446744073709551616

theorem Rt.word {a r : Int} {n : Nat} (h : Rt a r n) : Word r := by
  obtain ⟨⟨c, rfl⟩, _, _, le⟩ := h
  have := pow_pos' n
  exact ⟨by omega, by omega⟩
theorem Rt.or {a r : Int} {n : Nat} (h : Rt a r (n + 1)) : bits BinOp.or IntKind.u64 r (IntKind.u64.wrap (2 ^ n)) = r + 2 ^ n := by
  have w := h.word
  obtain ⟨⟨c, rfl⟩, _, _, le⟩ := h
  have hp := pow_pos' n
  have e2 : (2 : Int) ^ (n + 1) = 2 ^ n * 2 := Int.pow_succ 2 n
  have e : IntKind.u64.wrap ((2 : Int) ^ n) = ((2 ^ n : Nat) : Int) := by
    rw [IntKind.wrap_u64, Int.emod_eq_of_lt (by omega) (by have := w.1; omega)]
    simp
  have l1 : c * 2 ^ (n + 1) < 18446744073709551616 := by have := w.2; omega
  have l2 : 2 ^ n < 18446744073709551616 := by
    have h1 : ((2 ^ n : Nat) : Int) < 18446744073709551616 := by
      have : ((2 ^ n : Nat) : Int) = 2 ^ n := by simp
      rw [this]
      have := w.1
      omega
    omega
  rw [e, bits_or_u64_nat _ _ l1 l2, Nat.mul_comm c, ← Nat.two_pow_add_eq_or_of_lt (by rw [Nat.pow_succ]; have := Nat.two_pow_pos n; omega), Int.natCast_add]
  simp
theorem Rt.yes {a r : Int} {n : Nat} (h : Rt a r (n + 1)) (hc : (r + 2 ^ n) * (r + 2 ^ n) ≤ a) : Rt a (r + 2 ^ n) n := by
  obtain ⟨⟨c, rfl⟩, _, hi, le⟩ := h
  have e2 : (2 : Int) ^ (n + 1) = 2 ^ n + 2 ^ n := by rw [Int.pow_succ]; omega
  rw [e2, ← Int.add_assoc] at hi le
  refine ⟨⟨c * 2 + 1, ?_⟩, hc, hi, le⟩
  rw [Nat.pow_succ, Nat.add_mul, Nat.mul_assoc, Nat.mul_comm 2, Int.natCast_add]
  simp
theorem Rt.no {a r : Int} {n : Nat} (h : Rt a r (n + 1)) (hc : ¬ (r + 2 ^ n) * (r + 2 ^ n) ≤ a) : Rt a r n := by
  obtain ⟨⟨c, rfl⟩, lo, hi, le⟩ := h
  have e2 : (2 : Int) ^ (n + 1) = 2 ^ n + 2 ^ n := by rw [Int.pow_succ]; omega
  have := pow_pos' n
  refine ⟨⟨c * 2, ?_⟩, lo, by omega, by omega⟩
  rw [Nat.pow_succ, Nat.mul_assoc, Nat.mul_comm 2]
theorem Rt.guess {a r : Int} {n : Nat} (h : Rt a r (n + 1)) : Word (r + 2 ^ n) := by
  have w := h.word
  have := h.le
  have e2 : (2 : Int) ^ (n + 1) = 2 ^ n + 2 ^ n := by rw [Int.pow_succ]; omega
  have := pow_pos' n
  have := w.1
  exact ⟨by omega, by omega⟩
theorem blen_spec {a : Int} (h : 0 ≤ a) : ∃ k : Nat, blen a = (k : Int) ∧ a < 2 ^ k ∧ (0 < a → (2 : Int) ^ (k - 1) ≤ a ∧ 1 ≤ k) ∧ (a = 0 → k = 0) := by
  obtain ⟨n, rfl⟩ := Int.eq_ofNat_of_zero_le h
  have hb := bitLen_spec n
  refine ⟨Go.bitLen n, by unfold blen; rw [Int.toNat_natCast], ?_, fun h0 => ⟨?_, ?_⟩, fun h0 => ?_⟩
  · have : ((n : Nat) : Int) < ((2 ^ Go.bitLen n : Nat) : Int) := Int.ofNat_lt.2 hb.1
    simpa using this
  · have : ((2 ^ (Go.bitLen n - 1) : Nat) : Int) ≤ (n : Int) := Int.ofNat_le.2 (hb.2 (by omega))
    simpa using this
  · rcases Nat.eq_zero_or_pos (Go.bitLen n) with e | e
    · rw [e] at hb
      simp at hb
      omega
    · exact e
  · have : n = 0 := by omega
    subst this
    rfl
theorem V2_lt {h l : Int} (w1 : Word h) (w2 : Word l) : 0 ≤ V2 h l ∧ V2 h l < 340282366920938463463374607431768211456 := by
  obtain ⟨_, _⟩ := w1; obtain ⟨_, _⟩ := w2
  unfold V2
  constructor <;> omega
theorem blen_le128 {a : Int} (h : 0 ≤ a) (h1 : a < 340282366920938463463374607431768211456) : 0 ≤ blen a ∧ blen a ≤ 128 := by
  obtain ⟨k, e, _, hk, hz⟩ := blen_spec h
  rw [e]
  refine ⟨by omega, ?_⟩
  rcases Int.lt_or_le 0 a with h0 | h0
  · have h2 := (hk h0).1
    rcases Nat.lt_or_ge 128 k with hlt | hge
    · exfalso
      have : (2 : Int) ^ 128 ≤ 2 ^ (k - 1) := by
        have h3 : 2 ^ 128 ≤ 2 ^ (k - 1) := Nat.pow_le_pow_right (by decide) (by omega)
        have h4 : ((2 ^ 128 : Nat) : Int) ≤ ((2 ^ (k - 1) : Nat) : Int) := Int.ofNat_le.2 h3
        simpa using h4
      have e128 : (2 : Int) ^ 128 = 340282366920938463463374607431768211456 := by decide
      omega
    · omega
  · have := hz (by omega)
    omega
/-- Where the search begins. -/
theorem Rt.start {a : Int} (h : 0 ≤ a) (h1 : a < 340282366920938463463374607431768211456) : Rt a 0 (((blen a + 1) / 2).toNat) := by
  obtain ⟨k, e, lt, _, _⟩ := blen_spec h
  have hb := blen_le128 h h1
  rw [e] at hb ⊢
  have hk : k ≤ 2 * (((k : Int) + 1) / 2).toNat := by omega
  have hk2 : (((k : Int) + 1) / 2).toNat ≤ 64 := by omega
  generalize (((k : Int) + 1) / 2).toNat = m at *
  refine ⟨⟨0, by simp⟩, by simpa using h, ?_, ?_⟩
  · have h2 : (2 : Int) ^ k ≤ 2 ^ m * 2 ^ m := by
      rw [← Int.pow_add]
      have h3 : 2 ^ k ≤ 2 ^ (m + m) := Nat.pow_le_pow_right (by decide) (by omega)
      have h4 : ((2 ^ k : Nat) : Int) ≤ ((2 ^ (m + m) : Nat) : Int) := Int.ofNat_le.2 h3
      simpa using h4
    rw [Int.zero_add]
    omega
  · have := pow_le64 m hk2
    omega

/-- Two cells that are there stay as they are: behind a call, behind a new block. -/
theorem kp2b {W w1 : World} {p q : Addr} {u v : Value} (hb : Below W.heap.size W w1) (h : W.cell? p = some u ∧ W.cell? q = some v) : w1.cell? p = some u ∧ w1.cell? q = some v :=
  ⟨(hb.cell (World.block_lt_of_cell? _ _ h.1)).trans h.1, (hb.cell (World.block_lt_of_cell? _ _ h.2)).trans h.2⟩
theorem kpa2 {W : World} {o : Obj} {p q : Addr} {u v : Value} (h : W.cell? p = some u ∧ W.cell? q = some v) : (W.alloc o).cell? p = some u ∧ (W.alloc o).cell? q = some v :=
  kp2b (bel_alloc (Below.refl _ _) o) h
theorem kpad2 {W : World} {o : Obj} {p q : Addr} {u v : Value} (h : W.cell? p = some u ∧ W.cell? q = some v) : (W.alloc o).drew.cell? p = some u ∧ (W.alloc o).drew.cell? q = some v :=
  kp2b (bel_drew (bel_alloc (Below.refl _ _) o)) h

/-- A root, and what is left. -/
def IsSqrt (a : Int) (v : Value) : Prop := ∃ r h l : Int, Word r ∧ Word h ∧ Word l ∧ r * r ≤ a ∧ a < (r + 1) * (r + 1) ∧ V2 h l = a - r * r ∧ v = .tuple #[.int .u64 r, .agg #[.int .u64 h, .int .u64 l]]

theorem sqrt_rest {h l c d : Int} (w1 : Word h) (w2 : Word l) (h0 : 0 ≤ c) (hd : 0 ≤ d) (e : V2 h l - c * 340282366920938463463374607431768211456 = d) : V2 h l = d := by
  have := V2_lt w1 w2
  omega

set_option maxHeartbeats 6400000 in
theorem sqrt2 (h l : Int) (h1 : Word h) (h2 : Word l) (w : World) :
    Calls Try.prog 38 #[.agg #[.int .u64 h, .int .u64 l]] w (Ret (IsSqrt (V2 h l)) w) := by
  have V := V2_lt h1 h2
  have st := Rt.start V.1 V.2
  have bl := blen_le128 V.1 V.2
  generalize ha : V2 h l = a at *
  have HA := Lib.hid ha
  clear ha
  go_enter Try.func38, Try.ntmps38
  go_wp2_with fail
  refine (len2 h l h1 h2 _).mono ?_
  rw [HA.out]
  rintro e w1 ⟨rfl, hb1⟩
  generalize blen a = k at *
  have HB1 : Hid (Below (w.heap.size + 2) ((w.alloc (.cells #[.int .u64 h, .int .u64 l] 24)).alloc (.cells #[.int .u64 0, .int .u64 0] 24)) w1) := hb1.mono (by simp)
  clear hb1
  go_wp2_with fail
  go_loopw [4, 5] (fun s4 s5 wr => ∃ (j r : Int), s5 = .int .i64 j ∧ s4 = .int .u64 r ∧ -1 ≤ j ∧ j ≤ 63 ∧ Rt a r (j + 1).toNat ∧ Hid (Below (w.heap.size + 2) ((w.alloc (.cells #[.int .u64 h, .int .u64 l] 24)).alloc (.cells #[.int .u64 0, .int .u64 0] 24)) wr)) (fun _ s5 _ => (intOf s5 + 1).toNat)
  case atStart => exact ⟨_, _, rfl, rfl, by omega, by omega, by rw [show (k + 1) / 2 - 1 + 1 = (k + 1) / 2 by omega]; exact st, HB1⟩
  case round =>
    clear st HB1
    obtain ⟨j, r, rfl, rfl, hj1, hj2, R, HB⟩ := hrel
    have c0 := HB.out.cell (p := ⟨w.heap.size, 0, none⟩) (by simp)
    have c1 := HB.out.cell (p := ⟨w.heap.size, 1, none⟩) (by simp)
    simp [go_sem] at c0 c1
    by_cases hj : 0 ≤ j
    · obtain ⟨n, rfl⟩ := Int.eq_ofNat_of_zero_le hj
      rw [show ((n : Int) + 1).toNat = n + 1 by omega] at R
      have ro := R.or
      have wg := R.guess
      by_cases hc : (r + 2 ^ n) * (r + 2 ^ n) ≤ a
      · have R' := R.yes hc
        have tc : decide (cmpI ((r + 2 ^ n) * (r + 2 ^ n)) a ≤ 0) = true := by simp only [decide_eq_true_eq]; unfold cmpI; split <;> (try split) <;> omega
        clear R hc
        generalize r + 2 ^ n = g at *
        have TC := Lib.hid tc
        clear tc
        go_wp2_with fail
        go_region_held3 (fun w' => w'.cell? ⟨w.heap.size, 0, none⟩ = some (.int .u64 h) ∧ w'.cell? ⟨w.heap.size, 1, none⟩ = some (.int .u64 l)) (first | exact ⟨c0, c1⟩ | exact kp2b (by assumption) (by assumption) | exact kpad2 (by assumption) | exact kpa2 (by assumption))
          (first
            | (go_at_call 23; refine (mul1x g g wg wg _).mono ?_; rintro e w' ⟨h5, l5, hh5, hl5, hv, rfl, c, rfl⟩; have HV5 := Lib.hid hv; clear hv)
            | (go_at_call 19; refine (cmp2 h5 l5 h l hh5 hl5 h1 h2 _).mono ?_; rw [HV5.out, HA.out]; rintro e w' ⟨rfl, hbc⟩))
        rw [TC.out]
        have hz := HB.out.size
        simp at hz
        have HB' : Hid (Below (w.heap.size + 2) ((w.alloc (.cells #[.int .u64 h, .int .u64 l] 24)).alloc (.cells #[.int .u64 0, .int .u64 0] 24)) w') := (HB.out.alloc (by omega) _).drew.trans (hbc.mono (by simp; omega))
        clear hbc HB HV5 TC
        go_wp2
        go_roundw
        case rel => exact ⟨(n : Int) - 1, _, by go_num, rfl, by omega, by omega, by rw [show ((n : Int) - 1 + 1).toNat = n by omega]; exact R', HB'⟩
        case measure => simp [intOf]
      · have R' := R.no hc
        have tc : decide (cmpI ((r + 2 ^ n) * (r + 2 ^ n)) a ≤ 0) = false := by simp only [decide_eq_false_iff_not]; unfold cmpI; split <;> (try split) <;> omega
        clear R hc
        generalize r + 2 ^ n = g at *
        have TC := Lib.hid tc
        clear tc
        go_wp2_with fail
        go_region_held3 (fun w' => w'.cell? ⟨w.heap.size, 0, none⟩ = some (.int .u64 h) ∧ w'.cell? ⟨w.heap.size, 1, none⟩ = some (.int .u64 l)) (first | exact ⟨c0, c1⟩ | exact kp2b (by assumption) (by assumption) | exact kpad2 (by assumption) | exact kpa2 (by assumption))
          (first
            | (go_at_call 23; refine (mul1x g g wg wg _).mono ?_; rintro e w' ⟨h5, l5, hh5, hl5, hv, rfl, c, rfl⟩; have HV5 := Lib.hid hv; clear hv)
            | (go_at_call 19; refine (cmp2 h5 l5 h l hh5 hl5 h1 h2 _).mono ?_; rw [HV5.out, HA.out]; rintro e w' ⟨rfl, hbc⟩))
        rw [TC.out]
        have hz := HB.out.size
        simp at hz
        have HB' : Hid (Below (w.heap.size + 2) ((w.alloc (.cells #[.int .u64 h, .int .u64 l] 24)).alloc (.cells #[.int .u64 0, .int .u64 0] 24)) w') := (HB.out.alloc (by omega) _).drew.trans (hbc.mono (by simp; omega))
        clear hbc HB HV5 TC
        go_wp2
        go_roundw
        case rel => exact ⟨(n : Int) - 1, _, by go_num, rfl, by omega, by omega, by rw [show ((n : Int) - 1 + 1).toNat = n by omega]; exact R', HB'⟩
        case measure => simp [intOf]
    · have ej : j = -1 := by omega
      subst ej
      have R0 : Rt a r 0 := R
      have wr0 := R0.word
      have lo := R0.lo
      have hi := R0.hi
      rw [Int.pow_zero] at hi
      clear R R0
      go_upto_region 8 with fail
      have hz := HB.out.size
      simp at hz
      go_cut [7] (fun s7 wx => ∃ (g : Nat) (h' l' : Int), s7 = .pointer (some ⟨g, 0, none⟩) ∧ w.heap.size + 2 ≤ g ∧ wx.cell? ⟨g, 0, none⟩ = some (.int .u64 h') ∧ wx.cell? ⟨g, 1, none⟩ = some (.int .u64 l') ∧ Word h' ∧ Word l' ∧ V2 h' l' = a - r * r ∧ Hid (Below (w.heap.size + 2) ((w.alloc (.cells #[.int .u64 h, .int .u64 l] 24)).alloc (.cells #[.int .u64 0, .int .u64 0] 24)) wx))
      case first =>
        go_region_held3 (fun w' => w'.cell? ⟨w.heap.size, 0, none⟩ = some (.int .u64 h) ∧ w'.cell? ⟨w.heap.size, 1, none⟩ = some (.int .u64 l)) ((refine kp2b (W := wr) ?_ ⟨c0, c1⟩; repeat (first | exact Below.refl _ _ | refine bel_drew ?_ | refine bel_alloc ?_ _)))
          (first
            | (go_at_call 23; refine (mul1x r r wr0 wr0 _).mono ?_; rintro e w' ⟨h5, l5, hh5, hl5, hv, rfl, c, rfl⟩; have HV5 := Lib.hid hv; clear hv)
            | (go_at_call 13; refine (sub2x h l h5 l5 h1 h2 hh5 hl5 _).mono ?_; rw [HV5.out, HA.out]; rintro e w' ⟨v, ⟨h6, l6, b6, hh6, hl6, hb60, hb61, hv6, rfl⟩, rfl, d1, d2, d3, rfl⟩; have HV6 := Lib.hid hv6; clear hv6))
        all_goals
          go_wp2_with fail
          go_meet
          refine ⟨_, h6, l6, rfl, by omega, by simp [go_sem], by simp [go_sem], hh6, hl6, sqrt_rest hh6 hl6 hb60 (by omega) HV6.out, ?_⟩
          show Below _ _ _
          refine HB.out.trans ?_
          refine Below.mono (B := wr.heap.size) ?_ (by omega)
          repeat (first | exact Below.refl _ _ | refine bel_drew ?_ | refine bel_alloc ?_ _)
      case rest =>
        obtain ⟨g, h', l', rfl, hg, d0, d1, wh', wl', hv, HB2⟩ := hcut
        have fin : IsSqrt a (.tuple #[.int .u64 r, .agg #[.int .u64 h', .int .u64 l']]) := ⟨_, _, _, wr0, wh', wl', lo, hi, hv, rfl⟩
        have r0 := HB2.out.cell (p := ⟨w.heap.size + 1, 0, none⟩) (by simp)
        have r1 := HB2.out.cell (p := ⟨w.heap.size + 1, 1, none⟩) (by simp)
        have f0 := HB2.out.frozen (p := ⟨w.heap.size + 1, 0, none⟩) (by simp)
        have f1 := HB2.out.frozen (p := ⟨w.heap.size + 1, 1, none⟩) (by simp)
        simp [go_sem] at r0 r1 f0 f1
        clear hv HB lo hi c0 c1 hz
        go_wp2
        go_region
        all_goals
          go_wp2
          refine bodyPost_ret (by simp [results, Try.results38, go_sem, r0, r1]) rfl ⟨_, fin, rfl, ?_⟩
          exact bel_drew (bel_set (bel_set ((bel_alloc (bel_alloc (Below.refl _ _) _) _).trans (HB2.out.mono (by omega))) (by simp) _) (by simp) _)
end Go.Proofs.Ytbpgallhlfjgjaa
