/-
  Contracts of the reference of layer 7: FromInt, To, Whole. Conditions: floats are words, an integer is one of 64 bits; To is asked for 32 or for 64 bits.
-/
import Derived.Test.YtmeobamfjcjbhaaCons
namespace Go.Proofs.Ytmeobamfjcjbhaa
open Go.RowKit
set_option maxRecDepth 100000

/-- A row of bits, rounded as an integer. -/
theorem hround_int {w : World} {x : Value} {p : Int} {L : Nat} (h : RowV w x p L) (hL : L ≤ 65536) (hp : 0 ≤ p) (neg : Bool) (md : Int) : Calls Try.prog 16 #[.bool neg, x, .int .i64 0, .bool false, .int .u8 md] w (RetF (rF md neg (2 * (p * dD)) false) (rG md neg (2 * (p * dD)) false) w) := by
  rcases Int.lt_or_eq_of_le hp with k | k
  · obtain ⟨i1, i2⟩ := int_round p
    have HR := hround_pos h hL k neg 0 false md
    rw [Bool.false_and, i1, i2] at HR
    exact HR
  · subst k
    rw [Int.zero_mul, Int.mul_zero, (rF_nil md neg).1, (rF_nil md neg).2]
    exact hround_zero h hL neg 0 false md

set_option maxHeartbeats 2000000 in
theorem jfrom_any (x md : Int) (h0 : -9223372036854775808 ≤ x) (h1 : x ≤ 9223372036854775807) (w : World) : Calls Try.prog 9 #[.int .i64 x, .int .u8 md] w (RetF (fiF md x) (fiG md x) w) := by
  have wn : Word (x.natAbs : Int) := ⟨by omega, by omega⟩
  have R := Lib.hid (fun (w : World) (v : Value) (h : RowV w v (x.natAbs : Int) 64) => hround_int h (by decide) (by omega) (decide (x < 0)) md)
  have O := Lib.hid (fun (w : World) => ofV (rdw_one w 24 (x.natAbs : Int)) wn)
  by_cases h : x < 0
  · have e1 : IntKind.u64.wrap (0 - IntKind.u64.wrap x) = (x.natAbs : Int) := by simp only [IntKind.wrap_u64]; omega
    have e3 : IntKind.u64.wrap (-IntKind.u64.wrap x) = (x.natAbs : Int) := by simp only [IntKind.wrap_u64]; omega
    have e2 : decide (x < 0) = true := decide_eq_true h
    unfold fiF fiG
    rw [e2] at R ⊢
    go_enter Try.func9, Try.ntmps9
    go_wp2_with fail
    refine (O.out _).mono ?_
    rintro e w1 ⟨v, rv, rfl, hb1⟩
    have HB1 := Lib.hid (bel_trans (bel_alloc (Below.refl _ _) _) hb1)
    clear hb1
    obtain ⟨A, n, c, rfl⟩ := rv.form
    go_wp2_with fail
    refine (R.out _ _ rv).mono ?_
    rintro e w2 ⟨rfl, hb⟩
    go_wp2_with fail
    go_ret2
    exact ⟨rfl, bel_trans HB1.out hb⟩
  · have e1 : IntKind.u64.wrap x = (x.natAbs : Int) := by simp only [IntKind.wrap_u64]; omega
    have e2 : decide (x < 0) = false := decide_eq_false h
    unfold fiF fiG
    rw [e2] at R ⊢
    go_enter Try.func9, Try.ntmps9
    go_wp2_with fail
    refine (O.out _).mono ?_
    rintro e w1 ⟨v, rv, rfl, hb1⟩
    have HB1 := Lib.hid (bel_trans (bel_alloc (Below.refl _ _) _) hb1)
    clear hb1
    obtain ⟨A, n, c, rfl⟩ := rv.form
    go_wp2_with fail
    refine (R.out _ _ rv).mono ?_
    rintro e w2 ⟨rfl, hb⟩
    go_wp2_with fail
    go_ret2
    exact ⟨rfl, bel_trans HB1.out hb⟩
theorem topb7 {f : Int} (hf : Word f) : (f / 9223372036854775808 == 1) = fS f := by rw [← u64_tdiv hf (by decide)]; exact gsign_eq hf

set_option maxHeartbeats 8000000 in
theorem jto_any (f n c : Int) (hf : Word f) (hc : (n = 32 ∧ c = 2147483648) ∨ (n = 64 ∧ c = 9223372036854775808)) (w : World) : Calls Try.prog 11 #[.int .u64 f, .int .i64 n] w (RetI .i64 (toX c f) (toG c f) w) := by
  have FF := Lib.hid (gfinite_any f hf)
  have cb := cls_bd f
  by_cases h3 : 3 ≤ fC f
  · have e0 : tBad c f = true := by unfold tBad; rw [decide_eq_true h3]; rfl
    have e1 : toX c f = 0 := by unfold toX; rw [e0]; rfl
    have e2 : toG c f = 16 := by unfold toG; rw [e0]; rfl
    have t3 : decide (fC f < 3) = false := decide_eq_false (by omega)
    rw [t3] at FF
    rw [e1, e2]
    clear e0 e1 e2 t3
    go_enter Try.func11, Try.ntmps11
    go_wp2_with fail
    refine (FF.out _).mono ?_
    rintro e w1 ⟨rfl, rfl⟩
    go_wp2_with fail
    go_ret2
    exact ⟨rfl, Below.refl _ _⟩
  · have hfin : fC f < 3 := by omega
    rw [decide_eq_true hfin] at FF
    have PF := Lib.hid (jparts_any f hf hfin)
    have tb := Lib.hid (topb7 hf)
    have hpw : (2 : Int) ^ (n - 1).toNat = c := by
      rcases hc with ⟨rfl, rfl⟩ | ⟨rfl, rfl⟩
      · decide
      · decide
    have hn : 32 ≤ n ∧ n ≤ 64 := by omega
    have SO := fun (w : World) => shl_one (N := n - 1) (row_one w) (by omega) (by omega) 64 (by omega)
    rw [hpw] at SO
    have SO := Lib.hid SO
    have wr : wrap64 (n - 1) = n - 1 := wrap64_in (by omega) (by omega)
    have t0 := vT_nn f
    have hG0 : tBad c f = (decide (c < vT f) || (decide (vT f = c) && !fS f)) := by unfold tBad; rw [decide_eq_false h3, Bool.false_or]
    have hX : toX c f = if (decide (c < vT f) || (decide (vT f = c) && !fS f)) then 0 else sv (fS f) (vT f) := by unfold toX; rw [hG0]
    have hG : toG c f = if (decide (c < vT f) || (decide (vT f = c) && !fS f)) then 16 else if vR f = 0 then 0 else 1 := by unfold toG; rw [hG0]
    have hR : (if vR f = 0 then (0 : Int) else 1) = if decide (vR f = 0) then 0 else 1 := by simp
    rw [hR] at hG
    unfold RetParts at PF
    have hcb : c ≤ 9223372036854775808 := by omega
    have hc0 : 0 < c := by omega
    have HC := Lib.hid hc
    have HX := Lib.hid hX
    have HG := Lib.hid hG
    generalize toX c f = Xo at *
    generalize toG c f = Go at *
    clear hX hG hG0 hR hpw h3 cb hfin hc
    generalize cmpI (2 * vR f) dD = cc at *
    generalize decide (vR f = 0) = ex at *
    generalize vT f = T at *
    have TB := tb.out
    generalize fS f = s at *
    go_enter Try.func11, Try.ntmps11
    go_wp2_with fail
    refine (FF.out _).mono ?_
    rintro e w1 ⟨rfl, rfl⟩
    go_wp2_with fail
    refine (PF.out _).mono ?_
    rintro e w2 ⟨v, rv, rfl, hb⟩
    have HB := Lib.hid hb
    clear hb
    obtain ⟨A, k, d, xs, rfl, hk, hd, hr, hv, hl⟩ := rv
    go_wp2_with fail
    refine (SO.out _).mono ?_
    rintro e w3 ⟨y, hy, rfl, hb⟩
    have b3 := bel_trans (bel_alloc (Below.refl w2.heap.size w2) (.cells #[.bool true] 4)) hb
    have HB3 := Lib.hid (bel_trans HB.out b3)
    have hr3 := hr.below b3 (Nat.le_refl _)
    have RV3 : RowV w3 (.slice A k d) T 2200 := ⟨A, k, d, xs, rfl, hk, hd, hr3, hv, hl⟩
    clear hb b3 hr HB
    have CC := Lib.hid (rcmpV RV3 hy.v (by decide) (by decide))
    obtain ⟨B, m, l, rfl⟩ := hy.v.form
    clear hy
    go_wp2_with fail
    refine CC.out.mono ?_
    rintro e w4 ⟨rfl, rfl⟩
    clear CC
    rcases Int.lt_trichotomy T c with q | q | q
    · rw [cmpI_lt q]
      have z1 : (decide (c < T) || (decide (T = c) && !s)) = false := by rw [decide_eq_false (by omega), decide_eq_false (by omega)]; rfl
      have HX := HX.out
      have HG := HG.out
      rw [z1, if_neg (by decide)] at HX HG
      have hx := Lib.hid HX
      have hg := Lib.hid HG
      clear z1 HX HG
      have WO := Lib.hid (words1_any A k d xs w3 hk hr3 (by omega))
      rw [hv] at WO
      clear RV3 hr3 hv
      go_wp2_with fail
      refine WO.out.mono ?_
      rintro e w5 ⟨rfl, c5, hb5⟩
      have HB5 := Lib.hid (bel_trans HB3.out hb5)
      clear hb5 HB3 WO
      have wt : wrap64 T = T := wrap64_in (by omega) (by omega)
      have wm : wrap64 (-T) = -T := wrap64_in (by omega) (by omega)
      cases s
      · cases ex
        · go_wp2_with fail
          go_ret2
          exact ⟨ret_two hx.out.symm hg.out.symm, HB5.out⟩
        · go_wp2_with fail
          go_ret2
          exact ⟨ret_two hx.out.symm hg.out.symm, HB5.out⟩
      · cases ex
        · go_wp2_with fail
          go_ret2
          exact ⟨ret_two hx.out.symm hg.out.symm, HB5.out⟩
        · go_wp2_with fail
          go_ret2
          exact ⟨ret_two hx.out.symm hg.out.symm, HB5.out⟩
    · rw [q, cmpI_eq]
      cases s
      · have z1 : (decide (c < c) || (decide (c = c) && !false)) = true := by simp
        have HX := HX.out
        have HG := HG.out
        rw [q, z1, if_pos rfl] at HX HG
        subst HX HG
        clear z1
        clear RV3 hr3 hv
        go_wp2_with fail
        go_ret2
        exact ⟨rfl, HB3.out⟩
      · have z1 : (decide (c < c) || (decide (c = c) && !true)) = false := by simp
        have HX := HX.out
        have HG := HG.out
        rw [q, z1, if_neg (by decide)] at HX HG
        have hx := Lib.hid HX
        have hg := Lib.hid HG
        clear z1 HX HG
        have WO := Lib.hid (words1_any A k d xs w3 hk hr3 (by omega))
        rw [hv, q] at WO
        clear RV3 hr3 hv
        go_wp2_with fail
        refine WO.out.mono ?_
        rintro e w5 ⟨rfl, c5, hb5⟩
        have HB5 := Lib.hid (bel_trans HB3.out hb5)
        clear hb5 HB3 WO
        cases ex
        · go_wp2_with fail
          go_ret2
          refine ⟨ret_two ?_ hg.out.symm, HB5.out⟩
          rw [hx.out]
          show _ = -c
          simp only [wrap64]
          have := HC.out
          omega
        · go_wp2_with fail
          go_ret2
          refine ⟨ret_two ?_ hg.out.symm, HB5.out⟩
          rw [hx.out]
          show _ = -c
          simp only [wrap64]
          have := HC.out
          omega
    · rw [cmpI_gt q]
      have z1 : (decide (c < T) || (decide (T = c) && !s)) = true := by rw [decide_eq_true q]; rfl
      have HX := HX.out
      have HG := HG.out
      rw [z1, if_pos rfl] at HX HG
      subst HX HG
      clear z1
      clear RV3 hr3 hv
      go_wp2_with fail
      go_ret2
      exact ⟨rfl, HB3.out⟩
end Go.Proofs.Ytmeobamfjcjbhaa
