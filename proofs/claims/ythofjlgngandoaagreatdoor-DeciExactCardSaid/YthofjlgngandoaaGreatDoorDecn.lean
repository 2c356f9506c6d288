/-
  The seventeenth digit: of the two numbers next to a float the nearer one is read as it. No function of the program.
-/
import Derived.Test.YthofjlgngandoaaGreatDoorDecm
namespace Go.Proofs.YthofjlgngandoaaGreatDoor
open Go.RowKit
set_option maxRecDepth 100000

/-- What is trimmed are noughts. -/
theorem trim_is (l : List UInt8) : l = Lib.trimRightB l 48 ++ List.replicate (l.length - (Lib.trimRightB l 48).length) 48 := by
  unfold Lib.trimRightB
  have h1 : l.reverse = l.reverse.takeWhile (· == 48) ++ l.reverse.dropWhile (· == 48) := List.takeWhile_append_dropWhile.symm
  have h2 : l.reverse.takeWhile (· == 48) = List.replicate (l.reverse.takeWhile (· == 48)).length 48 := by
    refine List.eq_replicate_iff.2 ⟨rfl, fun b hb => ?_⟩
    have : ∀ (l : List UInt8) b, b ∈ l.takeWhile (· == 48) → (b == 48) = true := by
      intro l
      induction l with
      | nil => intro b h; simp at h
      | cons c l ih =>
        intro b h
        rw [List.takeWhile_cons] at h
        split at h
        · rename_i hc
          rcases List.mem_cons.1 h with rfl | h'
          · exact hc
          · exact ih b h'
        · simp at h
    simpa using this _ b hb
  have h3 : l = (l.reverse.dropWhile (· == 48)).reverse ++ (l.reverse.takeWhile (· == 48)).reverse := by
    have := congrArg List.reverse h1
    rw [List.reverse_reverse, List.reverse_append] at this
    exact this
  have h4 : (l.reverse.takeWhile (· == 48)).length = l.length - ((l.reverse.dropWhile (· == 48)).reverse).length := by
    have := congrArg List.length h3
    rw [List.length_append, List.length_reverse, List.length_reverse] at this
    rw [List.length_reverse]
    omega
  rw [← h4]
  conv => lhs; rw [h3]
  congr 1
  conv => lhs; rw [h2]
  rw [List.reverse_replicate]
theorem nts_rep : ∀ n, List.replicate n (48 : UInt8) = nts n
  | 0 => rfl
  | n + 1 => by
    show 48 :: List.replicate n 48 = 48 :: nts n
    rw [nts_rep n]
/-- The digits without the noughts at their end: how many are lacking. -/
theorem dc_val {x : Nat} (h : x < 18446744073709551616) : ∃ j : Nat, dval (dcD x) * 10 ^ j = (x : Int) ∧ (∀ e, dcE x e = e + j) ∧ (dcD x).all isDig = true := by
  have e1 := trim_is (decF 20 x)
  have d := dec_dig x
  rw [dec20 h] at d
  refine ⟨(decF 20 x).length - (dcD x).length, ?_, ?_, ?_⟩
  · rw [← d.2]
    conv => rhs; rw [e1]
    rw [dval_append, nts_rep, nts_val, (nts_dig _).2]
    unfold dcD
    omega
  · intro e
    have := trim_len (decF 20 x) 48
    unfold dcE dcD
    omega
  · have := d.1
    rw [e1, List.all_append, Bool.and_eq_true] at this
    exact this.1
theorem dc_dig {x : Nat} (h : x < 18446744073709551616) (h0 : 0 < x) : digB (dcD x) = true ∧ 0 < dval (dcD x) := by
  obtain ⟨j, h1, -, h2⟩ := dc_val h
  have hp : (0 : Int) < 10 ^ j := Int.pow_pos (by decide)
  have hd : 0 < dval (dcD x) := by
    rcases Int.lt_or_le 0 (dval (dcD x)) with c | c
    · exact c
    · have := Int.mul_le_mul_of_nonneg_right c (Int.le_of_lt hp)
      omega
  refine ⟨digB_of h2 fun e => ?_, hd⟩
  rw [e, dval_nil] at hd
  omega
theorem nd_low {x : Nat} (h : 0 < x) : 10 ^ (Lib.nDigits x - 1) ≤ x := by
  induction x using Nat.strongRecOn with
  | _ x ih =>
    by_cases c : x < 10
    · rw [Lib.nDigits_small c]
      exact h
    · rw [Lib.nDigits_big c]
      have h1 := ih (x / 10) (by omega) (by omega)
      have h2 := Lib.nDigits_pos (x / 10)
      rw [show Lib.nDigits (x / 10) + 1 - 1 = Lib.nDigits (x / 10) - 1 + 1 by omega, Nat.pow_succ]
      omega
theorem dc_len {x : Nat} (h : x ≤ 100000000000000000) : (dcD x).length ≤ 17 := by
  rcases Nat.lt_or_ge x 100000000000000000 with c | c
  · have h1 := trim_len (decF 20 x) 48
    have h2 : (decF 20 x).length ≤ 17 := by
      rw [← dec20 (by omega), Lib.decDigits_length]
      rcases Nat.lt_or_ge (Lib.nDigits x) 18 with c1 | c1
      · omega
      · exfalso
        have h0 : 0 < x := by
          rcases Nat.eq_zero_or_pos x with e | e
          · rw [e, Lib.nDigits_small (by decide)] at c1; omega
          · exact e
        have := nd_low h0
        have h3 : 10 ^ 17 ≤ 10 ^ (Lib.nDigits x - 1) := Nat.pow_le_pow_right (by decide) (by omega)
        omega
    unfold dcD
    omega
  · obtain rfl : x = 100000000000000000 := by omega
    decide +kernel
/-- The nearer of the two. -/
theorem ar_near {N D : Int} {n : Nat} (hD : 0 < D) (hn : n = 1 ∨ n = 2) (W : Nat) (hW : (W : Int) = N / D) (r : Bool) (hr : r = decide (N % D ≠ 0)) :
    2 * ((arA W r n : Int) * (D * 10 ^ n) - N) ≤ D * 10 ^ n ∧ 2 * (N - (arA W r n : Int) * (D * 10 ^ n)) ≤ D * 10 ^ n := by
  have e1 := Int.emod_add_mul_ediv N D
  have e2 := Int.emod_nonneg N (Int.ne_of_gt hD)
  have e3 := Int.emod_lt_of_pos N hD
  rw [← hW] at e1
  have w1 := Nat.mod_add_div W (10 ^ n)
  have w2 : W % 10 ^ n < 10 ^ n := Nat.mod_lt _ (Nat.pow_pos (by decide))
  have u1 : ∃ u : Nat, 10 ^ n = 2 * u ∧ ((10 : Int) ^ n) = 2 * (u : Int) := by
    rcases hn with rfl | rfl
    · exact ⟨5, by decide, by decide⟩
    · exact ⟨50, by decide, by decide⟩
  obtain ⟨u, hu, hu'⟩ := u1
  have hS : arS W r n = (decide (10 ^ n < W % 10 ^ n * 2) || (decide (W % 10 ^ n * 2 = 10 ^ n) && (r || decide (W / 10 ^ n % 2 = 1)))) := rfl
  have hA : arA W r n = if arS W r n then W / 10 ^ n + 1 else W / 10 ^ n := rfl
  rw [hu] at w1 w2 hS hA
  rw [hu']
  generalize W % (2 * u) = c at *
  generalize W / (2 * u) = d at *
  generalize N % D = ρ at *
  generalize arA W r n = a at *
  generalize arS W r n = s at *
  -- N = d * (2u) * D + c * D + ρ
  have w3 : (W : Int) = (c : Int) + 2 * (u : Int) * (d : Int) := by rw [← w1]; simp
  have NN : N = (d : Int) * (D * (2 * (u : Int))) + (c : Int) * D + ρ := by
    rw [← e1, w3, Int.mul_add, Int.mul_comm D (c : Int), show D * (2 * (u : Int) * (d : Int)) = (d : Int) * (D * (2 * (u : Int))) by ac_rfl]
    omega
  have f1 : ∀ x y : Int, x ≤ y → x * D ≤ y * D := fun x y h => Int.mul_le_mul_of_nonneg_right h (Int.le_of_lt hD)
  have f2 : D * (2 * (u : Int)) = 2 * ((u : Int) * D) := by ac_rfl
  rw [f2] at NN ⊢
  have f6 := f1 0 (c : Int) (by omega)
  rw [Int.zero_mul] at f6
  have f3 := f1 (c : Int) (2 * u - 1) (by omega)
  rw [Int.sub_mul, Int.mul_assoc, Int.one_mul] at f3
  cases hs : s
  · rw [hs] at hA hS
    have hA' : a = d := hA
    subst hA'
    have k1 : ¬ 2 * u < c * 2 := fun h => by rw [decide_eq_true h] at hS; simp at hS
    rcases Nat.lt_or_ge (c * 2) (2 * u) with k2 | k2
    · have f4 := f1 ((c : Int) + 1) u (by omega)
      rw [Int.add_mul, Int.one_mul] at f4
      generalize (a : Int) * (2 * ((u : Int) * D)) = X at *
      generalize (c : Int) * D = Y at *
      generalize (u : Int) * D = Z at *
      omega
    · have k3 : c * 2 = 2 * u := by omega
      have k4 : r = false := by
        cases r
        · rfl
        · rw [decide_eq_true k3] at hS; simp at hS
      rw [k4] at hr
      have k5 : ρ = 0 := by
        have := of_decide_eq_false hr.symm
        omega
      have k6 : c = u := by omega
      subst k6
      generalize (a : Int) * (2 * ((c : Int) * D)) = X at *
      generalize (c : Int) * D = Y at *
      omega
  · rw [hs] at hA hS
    have hA' : a = d + 1 := hA
    subst hA'
    have k1 : 2 * u ≤ c * 2 := by
      rcases Nat.lt_or_ge (c * 2) (2 * u) with k | k
      · rw [decide_eq_false (by omega), decide_eq_false (by omega)] at hS
        simp at hS
      · exact k
    have f4 := f1 (u : Int) c (by omega)
    have f5 : (((d + 1 : Nat) : Int)) * (2 * ((u : Int) * D)) = (d : Int) * (2 * ((u : Int) * D)) + 2 * ((u : Int) * D) := by
      rw [Int.natCast_add, Int.add_mul]
      simp
    rw [f5]
    generalize (d : Int) * (2 * ((u : Int) * D)) = X at *
    generalize (c : Int) * D = Y at *
    generalize (u : Int) * D = Z at *
    omega

/-- A float's magnitude, by its parts. -/
theorem fl_parts {f : Int} (hf : 0 ≤ f) (hf' : f < 9223372036854775808) (hc : fC f < 3) : gK f * p2 (-fY f) = fX f * p2 (fY f) * dD := by
  have h := fMg_is (f := f) ⟨hf, by omega⟩ hc
  unfold fMg at h
  rw [show f % 9223372036854775808 = f by omega] at h
  have b := fY_bd f
  have d : dD = 2 ^ 1074 := by unfold dD; rw [dB_int]
  rw [← h, d]
  unfold p2
  rw [Int.mul_assoc, Int.mul_assoc, ← Int.pow_add, ← Int.pow_add]
  congr 2
  omega
/-- The nearer of the two numbers of seventeen digits next to a float is read as it. -/
theorem last_reads {f : Int} (h0 : 0 < f) (h1 : f ≤ 9218868437227405311) (hc : fC f < 3) (hx : 0 < fX f) :
    18 ≤ Lib.nDigits (exW (fX f) (fY f)) ∧ Lib.nDigits (exW (fX f) (fY f)) ≤ 19 ∧
    nearV (dcD (arA (exW (fX f) (fY f)) (exR (fX f) (fY f)) (Lib.nDigits (exW (fX f) (fY f)) - 17))) (dcE (arA (exW (fX f) (fY f)) (exR (fX f) (fY f)) (Lib.nDigits (exW (fX f) (fY f)) - 17)) (exE (fX f) (fY f) + ((Lib.nDigits (exW (fX f) (fY f)) - 17 : Nat) : Int))) = f := by
  have FP := fl_parts (f := f) (by omega) (by omega) hc
  have yb := fY_bd f
  have xb := fX_bd (f := f)
  have yb2 : fY f ≤ 971 := by
    have : fE f ≤ 2046 := by
      unfold fC at hc
      have e0 : 0 ≤ fE f ∧ fE f < 2048 := by unfold fE; omega
      by_cases h : fE f = 2047
      · rw [if_pos h] at hc
        split at hc <;> omega
      · omega
    unfold fY
    split
    · omega
    · split <;> omega
  have hm := xb.2
  generalize hM : fX f = m at *
  generalize fY f = e at *
  obtain ⟨w0, w1⟩ := exW_bd hx hm yb.1 yb2
  have wi := exW_int (e := e) hx
  have dp := exD_pos (m := m) (e := e)
  have nn := exN_nn (e := e) hx
  have t := ex_t hx hm yb.1 yb2
  have lb := lg_bd t.1 t.2
  have EE : exE m e = lg (exT m e) - 17 := rfl
  have RR : exR m e = decide (exN m e % exD m e ≠ 0) := rfl
  have ND : exN m e = m * p2 e * p10 (-exE m e) := rfl
  have DD : exD m e = p2 (-e) * p10 (exE m e) := rfl
  -- how many digits
  have s1 : 18 ≤ Lib.nDigits (exW m e) := by
    rcases Nat.lt_or_ge (Lib.nDigits (exW m e)) 18 with c | c
    · exfalso
      have a1 := Lib.lt_pow_nDigits (exW m e)
      have a2 : 10 ^ Lib.nDigits (exW m e) ≤ 10 ^ 17 := Nat.pow_le_pow_right (by decide) (by omega)
      omega
    · exact c
  have s2 : Lib.nDigits (exW m e) ≤ 19 := by
    rcases Nat.lt_or_ge 19 (Lib.nDigits (exW m e)) with c | c
    · exfalso
      have a1 := nd_low (x := exW m e) (by omega)
      have a2 : 10 ^ 19 ≤ 10 ^ (Lib.nDigits (exW m e) - 1) := Nat.pow_le_pow_right (by decide) (by omega)
      omega
    · exact c
  refine ⟨s1, s2, ?_⟩
  have lo16 : 10000000000000000 * 10 ^ (Lib.nDigits (exW m e) - 17) ≤ exW m e := by
    have a1 := nd_low (x := exW m e) (by omega)
    have a2 : 10 ^ (Lib.nDigits (exW m e) - 1) = 10000000000000000 * 10 ^ (Lib.nDigits (exW m e) - 17) := by
      rw [show Lib.nDigits (exW m e) - 1 = 16 + (Lib.nDigits (exW m e) - 17) by omega, Nat.pow_add]
    omega
  have hn : Lib.nDigits (exW m e) - 17 = 1 ∨ Lib.nDigits (exW m e) - 17 = 2 := by omega
  generalize Lib.nDigits (exW m e) - 17 = n at *
  have AN := ar_near dp hn (exW m e) wi (exR m e) RR
  -- the candidate
  have ab : 0 < arA (exW m e) (exR m e) n ∧ arA (exW m e) (exR m e) n < 18446744073709551616 := by
    have a1 : 10000000000000000 ≤ exW m e / 10 ^ n := (Nat.le_div_iff_mul_le (Nat.pow_pos (by decide))).2 lo16
    have a2 : exW m e / 10 ^ n ≤ exW m e := Nat.div_le_self _ _
    unfold arA
    split <;> omega
  generalize arA (exW m e) (exR m e) n = a at *
  obtain ⟨j, v1, v2, -⟩ := dc_val ab.2
  have vd := (dc_dig ab.2 ab.1).2
  rw [v2]
  have ez : exE m e + (n : Int) + (j : Int) = exE m e + ((n + j : Nat) : Int) := by rw [Int.natCast_add]; omega
  rw [ez]
  show nrF (dval (dcD a) * p10 (exE m e + ((n + j : Nat) : Int))) (p10 (-(exE m e + ((n + j : Nat) : Int)))) = f
  generalize dval (dcD a) = v at *
  -- N is at least 10^16 of the unit
  have big : 10000000000000000 * (exD m e * 10 ^ n) ≤ exN m e := by
    have a1 : exD m e * (exN m e / exD m e) ≤ exN m e := Int.mul_ediv_self_le (Int.ne_of_gt dp)
    rw [← wi] at a1
    have a2 : ((10000000000000000 * 10 ^ n : Nat) : Int) ≤ (exW m e : Int) := Int.ofNat_le.2 lo16
    have a3 := Int.mul_le_mul_of_nonneg_left a2 (Int.le_of_lt dp)
    have a4 : exD m e * ((10000000000000000 * 10 ^ n : Nat) : Int) = 10000000000000000 * (exD m e * 10 ^ n) := by
      rw [Int.natCast_mul, Int.natCast_pow]
      show exD m e * (10000000000000000 * (10 : Int) ^ n) = _
      ac_rfl
    omega
  have up : 0 < exD m e * 10 ^ n := Int.mul_pos dp (Int.pow_pos (by decide))
  obtain ⟨c1, c2⟩ := near_digits (d := a) up big AN.1 AN.2
  -- the same proportion
  have TZ := p10_tri (exE m e) ((n + j : Nat) : Int)
  rw [p10_one (show -((n + j : Nat) : Int) ≤ 0 by omega), Int.mul_one, p10_nat, Int.pow_add] at TZ
  have q0 := p10_pos (-(exE m e + ((n + j : Nat) : Int)))
  have p0 : 0 < v * p10 (exE m e + ((n + j : Nat) : Int)) := Int.mul_pos vd (p10_pos _)
  have b1 := p2_pos (-e)
  have b2 := p10_pos (-exE m e)
  have cc : 0 < p2 (-e) * p10 (-exE m e) := Int.mul_pos b1 b2
  have c2p : 0 < dD * p10 (-(exE m e + ((n + j : Nat) : Int))) := Int.mul_pos dD_pos q0
  have r1 : gK f * p10 (-(exE m e + ((n + j : Nat) : Int))) * (p2 (-e) * p10 (-exE m e)) = exN m e * (dD * p10 (-(exE m e + ((n + j : Nat) : Int)))) := by
    rw [ND]
    generalize p10 (-(exE m e + ((n + j : Nat) : Int))) = q at *
    calc gK f * q * (p2 (-e) * p10 (-exE m e)) = (gK f * p2 (-e)) * (q * p10 (-exE m e)) := by ac_rfl
      _ = (m * p2 e * dD) * (q * p10 (-exE m e)) := by rw [FP]
      _ = m * p2 e * p10 (-exE m e) * (dD * q) := by ac_rfl
  have r2 : v * p10 (exE m e + ((n + j : Nat) : Int)) * dD * (p2 (-e) * p10 (-exE m e)) = (a : Int) * (exD m e * 10 ^ n) * (dD * p10 (-(exE m e + ((n + j : Nat) : Int)))) := by
    rw [DD, ← v1]
    generalize p10 (-(exE m e + ((n + j : Nat) : Int))) = q at *
    generalize p10 (exE m e + ((n + j : Nat) : Int)) = z at *
    calc v * z * dD * (p2 (-e) * p10 (-exE m e)) = (z * p10 (-exE m e)) * (v * dD * p2 (-e)) := by ac_rfl
      _ = (p10 (exE m e) * (10 ^ n * 10 ^ j) * q) * (v * dD * p2 (-e)) := by rw [TZ]
      _ = v * 10 ^ j * (p2 (-e) * p10 (exE m e) * 10 ^ n) * (dD * q) := by ac_rfl
  have lo : 18014398509481984 * (gK f * p10 (-(exE m e + ((n + j : Nat) : Int))) - v * p10 (exE m e + ((n + j : Nat) : Int)) * dD) < gK f * p10 (-(exE m e + ((n + j : Nat) : Int))) := by
    refine Int.lt_of_mul_lt_mul_right (a := p2 (-e) * p10 (-exE m e)) ?_ (Int.le_of_lt cc)
    rw [Int.mul_assoc, Int.sub_mul, r1, r2, ← Int.sub_mul, ← Int.mul_assoc]
    exact Int.mul_lt_mul_of_pos_right c1 c2p
  have hi : 18014398509481984 * (v * p10 (exE m e + ((n + j : Nat) : Int)) * dD - gK f * p10 (-(exE m e + ((n + j : Nat) : Int)))) < gK f * p10 (-(exE m e + ((n + j : Nat) : Int))) := by
    refine Int.lt_of_mul_lt_mul_right (a := p2 (-e) * p10 (-exE m e)) ?_ (Int.le_of_lt cc)
    rw [Int.mul_assoc, Int.sub_mul, r1, r2, ← Int.sub_mul, ← Int.mul_assoc]
    exact Int.mul_lt_mul_of_pos_right c2 c2p
  have R := near_rel p0 q0 h0 h1 lo hi
  unfold nrF
  rw [if_neg (by omega)]
  unfold rF
  rw [R.2]
  show f + 0 = f
  omega
end Go.Proofs.YthofjlgngandoaaGreatDoor
