/-
  Contracts of round.cut and round.Round. Conditions: the fields are words, the exponent is an int.
-/
import Derived.Test.YtdjhpplcdkgfgaaDoorDround
import Derived.Test.YtdjhpplcdkgfgaaDoorMRc
namespace Go.Proofs.YtdjhpplcdkgfgaaDoor
open Go.RowKit
set_option maxRecDepth 100000

theorem low_word {h l n : Int} (h1 : Word h) (h2 : Word l) (e : V2 h l = n) (hn : n < 18446744073709551616) : l = n := by
  obtain ⟨_, _⟩ := h1; obtain ⟨_, _⟩ := h2
  unfold V2 at e
  omega
theorem V2_pos {h l : Int} (w1 : Word h) (w2 : Word l) : 0 ≤ V2 h l ∧ V2 h l < 340282366920938463463374607431768211456 := by
  obtain ⟨_, _⟩ := w1; obtain ⟨_, _⟩ := w2
  unfold V2
  constructor <;> omega
theorem shl_fits {m : Int} {k : Nat} (h0 : 0 ≤ m) (h : m * 2 ^ k < 18446744073709551616) : shlV2 m k = m * 2 ^ k := by
  have := Int.mul_nonneg h0 (Int.le_of_lt (pow_pos' k))
  unfold shlV2
  omega

set_option maxHeartbeats 2000000 in
theorem cut_up (h l n : Int) (r : Bool) (h1 : Word h) (h2 : Word l) (hn : n ≤ 0) (hn' : -100000 ≤ n) (hf : V2 h l * 2 ^ (-n).toNat < 18446744073709551616) (w : World) :
    Calls Tryd.prog 35 #[.agg #[.int .u64 h, .int .u64 l], .int .i64 n, .bool r] w fun x w' => x = .returned (.agg #[.int .u64 (V2 h l * 2 ^ (-n).toNat), .bool false, .bool false]) ∧ Below w.heap.size w w' := by
  have HF : Hid (V2 h l * 2 ^ (-n).toNat < 18446744073709551616) := hf
  clear hf
  go_enter Tryd.func35, Tryd.ntmps35
  go_wp2_with fail
  refine (shl2 h l (-n) h1 h2 (by omega) _).mono ?_
  rintro e w2 ⟨v, ⟨h', l', wh, wl, hv, rfl⟩, rfl, hb2⟩
  rw [shl_fits (V2_pos h1 h2).1 HF.out] at hv
  have hl := low_word wh wl hv HF.out
  have HV := Lib.hid hl
  clear hv hl
  have hb := hb2
  have r0 := hb.cell (p := ⟨w.heap.size + 1, 0, none⟩) (by simp)
  have r1 := hb.cell (p := ⟨w.heap.size + 1, 1, none⟩) (by simp)
  have r2 := hb.cell (p := ⟨w.heap.size + 1, 2, none⟩) (by simp)
  have f0 := hb.frozen (p := ⟨w.heap.size + 1, 0, none⟩) (by simp)
  have f1 := hb.frozen (p := ⟨w.heap.size + 1, 1, none⟩) (by simp)
  have f2 := hb.frozen (p := ⟨w.heap.size + 1, 2, none⟩) (by simp)
  simp [go_sem] at r0 r1 r2 f0 f1 f2
  have HB := Lib.hid hb
  clear hb hb2
  have hfd : ∀ w : World, (Instr.field 24 (.agg #[.int .u64 h', .int .u64 l']) 1).run Tryd.prog w = .ok (.int .u64 l') w := fun _ => by kernel_rfl
  go_wp2
  refine bodyPost_ret (by simp [results, Tryd.results35, go_sem, r0, r1, r2]; rfl) rfl ⟨by rw [← HV.out], ?_⟩
  exact bel_set (bel_set (bel_set (bel_trans (bel_alloc (bel_alloc (Below.refl _ _) _) _) HB.out) (by simp) _) (by simp) _) (by simp) _

set_option maxHeartbeats 2000000 in
theorem cut_down0 (h l n X : Int) (r lo : Bool) (h1 : Word h) (h2 : Word l) (hn : 0 < n) (hn' : n ≤ 100000) (hX : V2 h l / 2 ^ (n - 1).toNat = X) (hlo : decide (V2 h l % 2 ^ (n - 1).toNat ≠ 0) = lo) (hf : X < 18446744073709551616) (w : World) :
    Calls Tryd.prog 35 #[.agg #[.int .u64 h, .int .u64 l], .int .i64 n, .bool r] w fun x w' => x = .returned (.agg #[.int .u64 (X / 2), .bool (decide (X % 2 = 1)), .bool (lo || r)]) ∧ Below w.heap.size w w' := by
  have S := shr2 h l (n - 1) h1 h2 (by omega)
  unfold IsShr2 at S
  rw [hX, hlo] at S
  have S' := Lib.hid S
  clear S hX hlo
  go_enter Tryd.func35, Tryd.ntmps35
  go_wp2_with fail
  refine (S'.out _).mono ?_
  rintro e w2 ⟨v, ⟨h', l', wh, wl, hv, rfl⟩, rfl, hb2⟩
  have hl := low_word wh wl hv hf
  subst hl
  clear hv
  have hb := bel_alloc hb2 (.cells #[.int .u64 h', .int .u64 l'] 24)
  have r0 := hb.cell (p := ⟨w.heap.size + 1, 0, none⟩) (by simp)
  have r1 := hb.cell (p := ⟨w.heap.size + 1, 1, none⟩) (by simp)
  have r2 := hb.cell (p := ⟨w.heap.size + 1, 2, none⟩) (by simp)
  have f0 := hb.frozen (p := ⟨w.heap.size + 1, 0, none⟩) (by simp)
  have f1 := hb.frozen (p := ⟨w.heap.size + 1, 1, none⟩) (by simp)
  have f2 := hb.frozen (p := ⟨w.heap.size + 1, 2, none⟩) (by simp)
  simp [go_sem] at r0 r1 r2 f0 f1 f2
  have HB := Lib.hid hb
  have A : (bits BinOp.and IntKind.u64 l' 1 == 1) = decide (l' % 2 = 1) := by
    rw [and1 wl, Bool.eq_iff_iff]
    simp
  clear hb hb2 S'
  cases lo
  · go_wp2
    refine bodyPost_ret (by simp [results, Tryd.results35, go_sem, r0, r1, r2]) rfl ⟨rfl, ?_⟩
    exact bel_set (bel_set (bel_set (bel_trans (bel_alloc (bel_alloc (Below.refl _ _) _) _) HB.out) (by simp) _) (by simp) _) (by simp) _
  · go_wp2
    refine bodyPost_ret (by simp [results, Tryd.results35, go_sem, r0, r1, r2]) rfl ⟨rfl, ?_⟩
    exact bel_set (bel_set (bel_set (bel_trans (bel_alloc (bel_alloc (Below.refl _ _) _) _) HB.out) (by simp) _) (by simp) _) (by simp) _

theorem cut_down (h l : Int) (d : Nat) (r : Bool) (h1 : Word h) (h2 : Word l) (hn' : d < 100000) (hf : V2 h l / 2 ^ d < 18446744073709551616) (w : World) :
    Calls Tryd.prog 35 #[.agg #[.int .u64 h, .int .u64 l], .int .i64 ((d : Int) + 1), .bool r] w fun x w' => x = .returned (.agg #[.int .u64 (V2 h l / 2 ^ d / 2), .bool (decide (V2 h l / 2 ^ d % 2 = 1)), .bool (decide (V2 h l % 2 ^ d ≠ 0) || r)]) ∧ Below w.heap.size w w' := by
  have e : ((d : Int) + 1 - 1).toNat = d := by omega
  have := cut_down0 h l ((d : Int) + 1) _ r _ h1 h2 (by omega) (by omega) (by rw [e]) (by rw [e]) hf w
  exact this

/-- Where the exponent stands in halves of the least unit. -/
def eP (e : Int) : Nat := (e + 1075).toNat
def eQ (e : Int) : Nat := (-(e + 1075)).toNat
theorem eu {m e : Int} (hm : 0 < m) : (rU (rN m (eP e) (eQ e)) : Int) = max (blen m + e - 53) (-1074) + 1074 := by
  rw [rN_u hm]
  unfold eP eQ
  omega
theorem cut_any (h l e : Int) (r : Bool) (h1 : Word h) (h2 : Word l) (hm : 0 < V2 h l) (he : -5000 ≤ e ∧ e ≤ 5000) (hr : r = true → 54 ≤ blen (V2 h l)) (w : World) :
    Calls Tryd.prog 35 #[.agg #[.int .u64 h, .int .u64 l], .int .i64 (max (blen (V2 h l) + e - 53) (-1074) - e), .bool r] w fun x w' => x = .returned (.agg #[.int .u64 (rW (rN (V2 h l) (eP e) (eQ e))), .bool (rH (rN (V2 h l) (eP e) (eQ e))), .bool (rB (rN (V2 h l) (eP e) (eQ e)) (rS (V2 h l) (eP e) (eQ e) r))]) ∧ Below w.heap.size w w' := by
  have hu := eu (e := e) hm
  have hb := blen_le2 (k := 128) (Int.le_of_lt hm) (by have := (V2_pos h1 h2).2; exact this)
  have hb1 : 1 ≤ blen (V2 h l) := by obtain ⟨j, e1, _, _⟩ := blen_at hm; omega
  have hlt := blen_lt (a := V2 h l) (k := (blen (V2 h l)).toNat) (Int.le_of_lt hm) (by omega)
  have hpq : (eP e : Int) - eQ e = e + 1075 := by unfold eP eQ; omega
  by_cases hn : max (blen (V2 h l) + e - 53) (-1074) - e ≤ 0
  · have hr' : r = false := by
      cases r
      · rfl
      · have := hr rfl; omega
    subst hr'
    obtain ⟨k1, k2, k3⟩ := rN_whole (m := V2 h l) (eP e) (eQ e) (-(max (blen (V2 h l) + e - 53) (-1074) - e)).toNat (by omega)
    rw [k1, k2, k3]
    refine cut_up h l _ false h1 h2 hn (by omega) ?_ w
    have a1 : V2 h l * 2 ^ (-(max (blen (V2 h l) + e - 53) (-1074) - e)).toNat < 2 ^ (blen (V2 h l)).toNat * 2 ^ (-(max (blen (V2 h l) + e - 53) (-1074) - e)).toNat := Int.mul_lt_mul_of_pos_right hlt (pow_pos' _)
    rw [← Int.pow_add] at a1
    have a2 := pow_mono ((blen (V2 h l)).toNat + (-(max (blen (V2 h l) + e - 53) (-1074) - e)).toNat) 64 (by omega)
    exact Int.lt_of_lt_of_le a1 a2
  · obtain ⟨d, hd⟩ : ∃ d : Nat, max (blen (V2 h l) + e - 53) (-1074) - e = (d : Int) + 1 := ⟨(max (blen (V2 h l) + e - 53) (-1074) - e - 1).toNat, by omega⟩
    obtain ⟨k1, k2, k3⟩ := rN_cut (m := V2 h l) (eP e) (eQ e) d r (by omega)
    rw [k1, k2, k3, hd]
    refine cut_down h l d r h1 h2 (by omega) ?_ w
    rw [Int.ediv_lt_iff_lt_mul (pow_pos' _), show (18446744073709551616 : Int) = 2 ^ 64 by decide, ← Int.pow_add]
    exact Int.lt_of_lt_of_le hlt (pow_mono _ _ (by omega))

theorem rW_blen {n : Int} (h : 0 ≤ n) : blen (rW n) = min (blen (n / 2)) 53 := by
  have e : rW n = n / 2 / 2 ^ rU n := by
    unfold rW
    rw [Nat.add_comm, Int.pow_add, ← Int.ediv_ediv_of_nonneg (by decide)]
    rfl
  have hb := blen_div (a := n / 2) (by omega) (rU n)
  have := blen_nn (n / 2)
  rw [← e] at hb
  rw [hb]
  unfold rU
  omega
theorem rW_small {n : Int} (h : 0 ≤ n) : rW n < 4503599627370496 ↔ blen (n / 2) ≤ 52 := by
  have hb := rW_blen h
  have h0 := (rW_bd h).1
  constructor
  · intro h1
    have := blen_le2 (k := 52) h0 h1
    omega
  · intro h1
    exact blen_lt (k := 52) h0 (by omega)
theorem rKey_aw (md : Int) (neg : Bool) (n : Int) (s : Bool) : rKey md neg n s = (rU n : Int) * 4503599627370496 + (rW n + b2i (aw md neg (rW n) (rH n) (rB n s))) := by
  unfold rKey
  rw [Int.add_assoc]
  rfl
theorem fin_good {md n U R : Int} {neg s : Bool} (hU : (rU n : Int) = U + 1074) (hR : R = rW n + b2i (aw md neg (rW n) (rH n) (rB n s))) (hk : U + 1074 + R / 4503599627370496 ≤ 2046) :
    mkF neg (U + 1074 + R / 4503599627370496) (R % 4503599627370496) = rF md neg n s ∧ rKey md neg n s ≤ 9218868437227405311 := by
  have e := rKey_aw md neg n s
  rw [← hR, hU] at e
  have hle : rKey md neg n s ≤ 9218868437227405311 := by omega
  refine ⟨?_, hle⟩
  unfold mkF rF rMag
  rw [if_pos hle, e]
  omega
theorem fin_bad {md n U R : Int} {neg s : Bool} (hU : (rU n : Int) = U + 1074) (hR : R = rW n + b2i (aw md neg (rW n) (rH n) (rB n s))) (hk : ¬ U + 1074 + R / 4503599627370496 ≤ 2046) :
    rBey md neg + sg neg = rF md neg n s ∧ rG md neg n s = 5 := by
  have e := rKey_aw md neg n s
  rw [← hR, hU] at e
  have hle : ¬ rKey md neg n s ≤ 9218868437227405311 := by omega
  unfold rF rMag rG
  rw [if_neg hle, if_neg hle]
  exact ⟨rfl, rfl⟩
theorem fin_flag {md n t : Int} {neg s : Bool} (hw : rW n < 4503599627370496 ↔ t ≤ -1022) (hk : rKey md neg n s ≤ 9218868437227405311) :
    (if aX (rH n) (rB n s) then (0 : Int) else if t ≤ -1022 then 3 else 1) = rG md neg n s := by
  unfold rG
  rw [if_pos hk]
  simp only [hw]
  rfl
theorem ret_two {k1 k2 : IntKind} {a b c d : Int} (h1 : a = c) (h2 : b = d) : Ending.returned (.tuple #[.int k1 a, .int k2 b]) = .returned (.tuple #[.int k1 c, .int k2 d]) := by rw [h1, h2]

theorem kpr3 {W w1 : World} {p0 p1 p2 : Addr} {a0 a1 a2 : Value} (hb : Below W.heap.size W w1) (h0 : W.cell? p0 = some a0) (h1 : W.cell? p1 = some a1) (h2 : W.cell? p2 = some a2) :
    w1.cell? p0 = some a0 ∧ w1.cell? p1 = some a1 ∧ w1.cell? p2 = some a2 :=
  ⟨kp_c hb h0, kp_c hb h1, kp_c hb h2⟩

/-- The exponent that counts. -/
def eC (e : Int) : Int := min (max e (-5000)) 5000
theorem eC_bd (e : Int) : -5000 ≤ eC e ∧ eC e ≤ 5000 := by unfold eC; omega

set_option maxHeartbeats 2000000 in
theorem round_zero (neg : Bool) (e : Int) (r : Bool) (md : Int) (w : World) :
    Calls Tryd.prog 10 #[.bool neg, .agg #[.int .u64 0, .int .u64 0], .int .i64 e, .bool r, .int .u8 md] w fun x w' => x = .returned (.tuple #[.int .u64 (sg neg), .int .u8 0]) ∧ Below w.heap.size w w' := by
  go_enter Tryd.func10, Tryd.ntmps10
  go_wp2_with fail
  refine (len2 0 0 ⟨by decide, by decide⟩ ⟨by decide, by decide⟩ _).mono ?_
  rintro x w1 ⟨rfl, hb⟩
  rw [show blen (V2 0 0) = 0 by decide]
  go_wp2_with fail
  refine (assemble_any neg 0 0 ⟨by decide, by decide⟩ ⟨by decide, by decide, by decide⟩ _).mono ?_
  rintro x w2 ⟨rfl, rfl⟩
  go_wp2_with fail
  go_ret2
  refine ⟨?_, bel_trans (bel_alloc (Below.refl _ _) _) hb⟩
  cases neg <;> rfl

set_option maxHeartbeats 8000000 in
theorem round_pos (neg : Bool) (h l e : Int) (r : Bool) (md : Int) (h1 : Word h) (h2 : Word l) (hm : 0 < V2 h l) (w : World) (n : Int) (s : Bool) (hn : n = rN (V2 h l) (eP (eC e)) (eQ (eC e))) (hs : s = rS (V2 h l) (eP (eC e)) (eQ (eC e)) (r && decide (54 ≤ blen (V2 h l)))) :
    Calls Tryd.prog 10 #[.bool neg, .agg #[.int .u64 h, .int .u64 l], .int .i64 e, .bool r, .int .u8 md] w fun x w' => x = .returned (.tuple #[.int .u64 (rF md neg n s), .int .u8 (rG md neg n s)]) ∧ Below w.heap.size w w' := by
  have hb1 : 1 ≤ blen (V2 h l) := by obtain ⟨j, e1, _, _⟩ := blen_at hm; omega
  have hb2 := blen_le2 (k := 128) (Int.le_of_lt hm) (by have := (V2_pos h1 h2).2; exact this)
  have hu := eu (e := eC e) hm
  rw [← hn] at hu
  have C := cut_any h l (eC e) (r && decide (54 ≤ blen (V2 h l))) h1 h2 hm (eC_bd e) (by intro h; simp at h; exact h.2)
  rw [← hn, ← hs] at C
  have hn0 : 0 ≤ n := by rw [hn]; exact rN_nn (Int.le_of_lt hm) _ _
  have LE := len2 h l h1 h2
  have HW : rW n < 4503599627370496 ↔ blen (V2 h l) + eC e ≤ -1022 := by
    rw [rW_small hn0, hn, rN_blen hm]
    unfold eP eQ
    omega
  generalize blen (V2 h l) = b at *
  have hC := eC_bd e
  have e0 : min (max e (-5000)) 5000 = eC e := rfl
  generalize eC e = E at *
  obtain ⟨w0, w1', w2⟩ := rW_bd hn0
  go_enter Tryd.func10, Tryd.ntmps10
  go_wp2_with fail
  refine (LE _).mono ?_
  rintro x w1 ⟨rfl, hb⟩
  have z0 : (b == 0) = false := by simp; omega
  have c0 := hb.cell (p := ⟨w.heap.size, 0, none⟩) (by simp)
  have c1 := hb.cell (p := ⟨w.heap.size, 1, none⟩) (by simp)
  simp [go_sem] at c0 c1
  have CC : Hid (∀ w : World,
    Calls Tryd.prog 35 #[.agg #[.int .u64 h, .int .u64 l], .int .i64 (max (b + E - 53) (-1074) - E), .bool (r && decide (54 ≤ b))] w fun x w' => x = .returned (.agg #[.int .u64 (rW n), .bool (rH n), .bool (rB n s)]) ∧ Below w.heap.size w w') := C
  clear C LE hn hs
  have tk : decide (53 < b) = decide (54 ≤ b) := by rw [Bool.eq_iff_iff]; simp; omega
  have hw : Hid (rW n < 4503599627370496 ↔ b + E ≤ -1022) := HW
  clear HW
  have hw0 : Hid (0 ≤ rW n ∧ rW n < 9007199254740992) := ⟨w0, w1'⟩
  clear w0 w1' w2
  generalize hU : max (b + E - 53) (-1074) = U at *
  have hU' : -1074 ≤ U ∧ U ≤ 5080 := by omega
  have HU := Lib.hid hu
  clear hu
  cases r
  all_goals
    go_wp2_with fail
    refine (CC.out _).mono ?_
    rintro x w3 ⟨rfl, hb3⟩
    go_wp2_with fail
    refine (rounded_any _ _ _ neg md ⟨hw0.out.1, by have := hw0.out.2; omega⟩ hw0.out.2 _).mono ?_
    rintro x w4 ⟨rfl, hb4⟩
    have d0 := hb4.cell (p := ⟨w3.heap.size, 0, none⟩) (by simp)
    have d1 := hb4.cell (p := ⟨w3.heap.size, 1, none⟩) (by simp)
    have d2 := hb4.cell (p := ⟨w3.heap.size, 2, none⟩) (by simp)
    simp [go_sem] at d0 d1 d2
    have HB := Lib.hid (bel_trans (bel_alloc (bel_trans (bel_alloc (Below.refl w.heap.size w) _) (bel_trans hb hb3)) _) hb4)
    clear hb hb3 hb4 CC
    obtain ⟨R, hR⟩ : ∃ R, R = rW n + b2i (aw md neg (rW n) (rH n) (rB n s)) := ⟨_, rfl⟩
    have hR1 : 0 ≤ R ∧ R ≤ 9007199254740992 := by have := hw0.out; have := b2i_bd (aw md neg (rW n) (rH n) (rB n s)); omega
    rw [← hR]
    have HR := Lib.hid hR
    clear hR
    go_wp2_with fail
    refine (encode_any R U ⟨hR1.1, by omega⟩ hR1.2 hU'.1 (by omega) _).mono ?_
    rintro x w5 ⟨rfl, rfl⟩
    by_cases hk : U + 1074 + R / 4503599627370496 ≤ 2046
    · have G := Lib.hid (fin_good HU.out HR.out hk)
      have t0 : decide (2046 < U + 1074 + R / 4503599627370496) = false := by simp; omega
      have FL : Hid (∀ w : World, Calls Tryd.prog 39 #[.agg #[.int .u64 (rW n), .bool (rH n), .bool (rB n s)], .int .i64 (b + E)] w fun x w' => x = .returned (.int .u8 (rG md neg n s)) ∧ Below w.heap.size w w') := fun w => by
        have := flags_any (rW n) (rH n) (rB n s) (b + E) w
        rw [fin_flag hw.out G.out.2] at this
        exact this
      go_wp2_with fail
      go_region_held3 (fun w' => w'.cell? ⟨w3.heap.size, 0, none⟩ = some (.int .u64 (rW n)) ∧ w'.cell? ⟨w3.heap.size, 1, none⟩ = some (.bool (rH n)) ∧ w'.cell? ⟨w3.heap.size, 2, none⟩ = some (.bool (rB n s)))
        ((refine kpr3 (W := w4) ?_ d0 d1 d2; repeat (first | exact Below.refl _ _ | exact X7 | refine bel_drew ?_)))
        (first
          | (go_at_call 34; refine (assemble_any neg (U + 1074 + R / 4503599627370496) (R % 4503599627370496) ⟨by omega, by omega⟩ ⟨by omega, by omega, by omega⟩ _).mono ?_; rintro x w6 ⟨rfl, rfl⟩)
          | (go_at_call 39; refine (FL.out _).mono ?_; rintro x w7 ⟨rfl, hb7⟩; have X7 : Below w4.heap.size w4 w7 := bel_trans (bel_drew (Below.refl _ _)) hb7))
      all_goals
        go_wp2_with fail
        go_ret2
        exact ⟨ret_two G.out.1 rfl, bel_trans HB.out X7⟩
    · have G := Lib.hid (fin_bad HU.out HR.out hk)
      have t0 : decide (2046 < U + 1074 + R / 4503599627370496) = true := by simp; omega
      go_wp2_with fail
      refine (beyond_any neg md _).mono ?_
      rintro x w6 ⟨rfl, rfl⟩
      go_wp2_with fail
      go_ret2
      exact ⟨ret_two G.out.1 G.out.2.symm, HB.out⟩
end Go.Proofs.YtdjhpplcdkgfgaaDoor
