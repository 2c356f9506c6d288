/-
  What works of layer 8 says: true; and flyballlaw08.text. Conditions: the listed tables stand.
  The walk of DeciBack: whatever float is handed in, the law answers true. Conditions: the float is a word; the listed tables stand.
  The walk of DeciExact: whatever digits and whatever power are handed in, the law answers true. Conditions: the power is an int; the listed tables stand.
-/
import Derived.Test.YtgjgcehoakacoaaGreatDoorMXc
import Derived.Test.YtgjgcehoakacoaaGreatDoorMRc
namespace Go.Proofs.YtgjgcehoakacoaaGreatDoor
open Go.RowKit
set_option maxRecDepth 100000

theorem ascii_of {s : ByteArray} (h : (s.data.toList.all fun b => decide (b.toNat < 128)) = true) : Ascii s := fun j b hj => by
  have := List.all_eq_true.1 h b (List.mem_of_getElem? hj)
  exact of_decide_eq_true this
/-- The same, reckoned step by step. -/
def itF (z : Int) : List UInt8 := if z < 0 then 45 :: decF 20 z.natAbs else decF 20 z.toNat
theorem itF_is {z : Int} (h : -100000 ≤ z ∧ z ≤ 100000) : Lib.itoa z = itF z := by
  unfold Lib.itoa itF
  rw [dec20 (by omega), dec20 (by omega)]
def loF (d : List UInt8) (q : Int) : List UInt8 :=
  if 0 ≤ q ∧ d.length + q ≤ 21 then d ++ nts q.toNat ++ [46, 48]
  else if q < 0 ∧ 0 < d.length + q then d.take (d.length + q).toNat ++ 46 :: d.drop (d.length + q).toNat
  else if d.length + q ≤ 0 ∧ -5 ≤ d.length + q then 48 :: 46 :: (nts (-(d.length + q)).toNat ++ d)
  else d.take 1 ++ (if d.drop 1 = [] then [] else [46]) ++ d.drop 1 ++ 101 :: itF (d.length + q - 1)
def prF (f : Int) : List UInt8 :=
  if fC f = 4 then [110, 97, 110] else (if fS f then [45] else []) ++ (if fC f = 3 then [105, 110, 102] else if fC f = 0 then [48, 46, 48] else loF (dgD f) (dgQ f))
theorem prF_is {f : Int} (hf : Word f) : prT f = prF f := by
  unfold prT prF
  by_cases hc : fC f = 1 ∨ fC f = 2
  · obtain ⟨k1, k2, k3, k4, -⟩ := dg_known hf hc
    unfold loT loF
    rw [itF_is (by omega)]
  · have := cls_bd f
    by_cases h4 : fC f = 4
    · rw [if_pos h4, if_pos h4]
    · rw [if_neg h4, if_neg h4]
      by_cases h3 : fC f = 3
      · rw [if_pos h3, if_pos h3]
      · rw [if_neg h3, if_neg h3, if_pos (show fC f = 0 by omega), if_pos (show fC f = 0 by omega)]
theorem pr_call (f : Int) (l : List UInt8) (hf : Word f) (h : prF f = l) (w : World) (hE : EnvOk w) : Calls Tryz.prog 9 #[.int .u64 f] w fun x w' => x = .returned (.string ⟨l.toArray⟩) ∧ Below w.heap.size w w' := by
  have := print_any f hf w hE
  rw [prF_is hf, h] at this
  exact this
end Go.Proofs.YtgjgcehoakacoaaGreatDoor
namespace Go.Proofs.YtgjgcehoakacoaaGreatDoor
open Go.RowKit
set_option maxRecDepth 100000

theorem nrF_eq {p q p' q' : Int} (hp : 0 < p) (hq : 0 < q) (hp' : 0 < p') (hq' : 0 < q') (h : p * q' = p' * q) : nrF p q = nrF p' q' := by
  unfold nrF
  rw [if_neg (by omega), if_neg (by omega)]
  obtain ⟨a1, a2⟩ := nX_scale (p := p) (q := q) hq'
  obtain ⟨b1, b2⟩ := nX_scale (p := p') (q := q') hq
  rw [← a1, ← a2, ← b1, ← b2, h, Int.mul_comm q q']
/-- Noughts at the end of the digits are nothing but a greater power. -/
theorem near_shift {x d : List UInt8} {e q : Int} (j : Nat) (hx : dval x = dval d * 10 ^ j) (he : e = q - j) (h0 : 0 < dval d) : nearV x e = nearV d q := by
  have T := p10_tri e (j : Int)
  rw [show e + (j : Int) = q by omega, p10_one (show -(j : Int) ≤ 0 by omega), Int.mul_one, p10_nat] at T
  have hj : (0 : Int) < 10 ^ j := Int.pow_pos (by decide)
  show nrF (dval x * p10 e) (p10 (-e)) = nrF (dval d * p10 q) (p10 (-q))
  refine nrF_eq (Int.mul_pos (by rw [hx]; exact Int.mul_pos h0 hj) (p10_pos _)) (p10_pos _) (Int.mul_pos h0 (p10_pos _)) (p10_pos _) ?_
  rw [hx]
  calc dval d * 10 ^ j * p10 e * p10 (-q) = dval d * (p10 e * 10 ^ j * p10 (-q)) := by ac_rfl
    _ = dval d * (p10 q * p10 (-e)) := by rw [T]
    _ = dval d * p10 q * p10 (-e) := by ac_rfl
def asc (l : List UInt8) : Bool := l.all fun b => decide (b.toNat < 128)
theorem asc_dig {l : List UInt8} (h : l.all isDig = true) : asc l = true := List.all_eq_true.2 fun b hb => by
  have := List.all_eq_true.1 h b hb
  unfold isDig at this
  simp only [Bool.and_eq_true, decide_eq_true_eq] at this
  rw [decide_eq_true_eq]
  omega
theorem asc_app {l m : List UInt8} (h : asc l = true) (k : asc m = true) : asc (l ++ m) = true := by
  unfold asc at *
  rw [List.all_append, h, k]
  rfl
theorem asc_cons {b : UInt8} {m : List UInt8} (h : b.toNat < 128) (k : asc m = true) : asc (b :: m) = true := by
  unfold asc at *
  rw [List.all_cons, k, decide_eq_true h]
  rfl
theorem asc_itoa (z : Int) : asc (Lib.itoa z) = true := by
  unfold Lib.itoa
  split
  · exact asc_cons (by decide) (asc_dig (dec_dig _).1)
  · exact asc_dig (dec_dig _).1
theorem asc_lo {d : List UInt8} (q : Int) (h : d.all isDig = true) : asc (loT d q) = true := by
  unfold loT
  split
  · exact asc_app (asc_app (asc_dig h) (asc_dig (nts_dig _).1)) (by decide)
  · split
    · exact asc_app (asc_dig (all_take h _)) (asc_cons (by decide) (asc_dig (all_drop h _)))
    · split
      · exact asc_cons (by decide) (asc_cons (by decide) (asc_app (asc_dig (nts_dig _).1) (asc_dig h)))
      · refine asc_app (asc_app (asc_app (asc_dig (all_take h _)) ?_) (asc_dig (all_drop h _))) (asc_cons (by decide) (asc_itoa _))
        split <;> decide
/-- What is printed of a finite float, behind its sign. -/
def prB (f : Int) : List UInt8 := if fC f = 0 then [48, 46, 48] else loT (dgD f) (dgQ f)
theorem prB_is {f : Int} (hf : Word f) (hc : fC f < 3) : prT f = (if fS f then [45] else []) ++ prB f ∧ asc (prB f) = true ∧ (prB f).length ≤ 26 ∧ psF (prB f) = fAb f ∧ psE (prB f) = 0 := by
  have cb := cls_bd f
  have e1 : prT f = (if fS f then [45] else []) ++ prB f := by
    unfold prT prB
    rw [if_neg (show ¬ fC f = 4 by omega), if_neg (show ¬ fC f = 3 by omega)]
  by_cases h0 : fC f = 0
  · have e2 : prB f = [48, 46, 48] := by unfold prB; rw [if_pos h0]
    rw [e1, e2]
    refine ⟨rfl, by decide, by decide, ?_, by decide +kernel⟩
    rw [show psF [48, 46, 48] = 0 by decide +kernel]
    unfold fAb
    rw [if_neg (by omega)]
    have hf0 := hf.1
    have hf1 := hf.2
    have : fE f = 0 ∧ fM f = 0 := by
      unfold fC at h0
      split at h0
      · split at h0 <;> omega
      · split at h0
        · split at h0
          · constructor <;> assumption
          · omega
        · omega
    unfold fE fM at this
    omega
  · have hc' : fC f = 1 ∨ fC f = 2 := by omega
    obtain ⟨k1, k2, k3, k4, k5⟩ := dg_known hf hc'
    obtain ⟨-, a0, a1, ac, -, -⟩ := ab_fin hf hc'
    have e2 : prB f = loT (dgD f) (dgQ f) := by unfold prB; rw [if_neg h0]
    rw [e1, e2]
    obtain ⟨r1, r2, r3, r4, r5, j, r6, r7⟩ := rd_lo k1 ⟨k3, k4⟩ k2
    have vd : 0 < dval (dgD f) := by
      have v0 := (dval_bd (digB_all k1).1).1
      rcases Int.lt_or_eq_of_le v0 with c | c
      · exact c
      · exfalso
        unfold nearV nrF at k5
        rw [← c, Int.zero_mul, if_pos (.inl rfl)] at k5
        omega
    have NV : nearV (rdD (loT (dgD f) (dgQ f))) (rdE (loT (dgD f) (dgQ f))) = fAb f := by
      rw [near_shift j r6 r7 vd, k5]
    have PE : psE (loT (dgD f) (dgQ f)) = 0 := by
      unfold psE
      rw [if_neg (by omega), if_pos r1, NV, if_neg (by omega)]
    refine ⟨rfl, asc_lo _ (digB_all k1).1, r3, ?_, PE⟩
    unfold psF
    rw [PE, if_pos rfl, NV]
end Go.Proofs.YtgjgcehoakacoaaGreatDoor
namespace Go.Proofs.YtgjgcehoakacoaaGreatDoor
open Go.RowKit
set_option maxRecDepth 100000

set_option maxHeartbeats 4000000 in
/-- A text that is too long is no number. -/
theorem nparse_long (s : ByteArray) (w : World) (hs : 20000 < s.size) : Calls Tryz.prog 79 #[.string s] w fun e w' => e = .returned (.tuple #[.slice none 0 0, .int .i64 20]) ∧ w = w' := by
  have h1 : (20000 : Int) < (s.size : Int) := by omega
  go_enter Tryz.func79, Tryz.ntmps79
  go_wp2_with fail
  go_ret2
  exact ⟨rfl, rfl⟩
theorem tpow_any (n : Int) (hn : n ≤ 3000) (w : World) :
    Calls Tryz.prog 95 #[.int .u64 10, .int .i64 n] w (RetShlV (((10 : Nat) : Int) ^ (max n 0).toNat) 375 w) := by
  have hk : blen (((10 : Nat)) : Int) = ((4 : Nat) : Int) := by decide +kernel
  have lt : ((10 : Nat) : Int) ^ (max n 0).toNat < 2 ^ 12000 := pow_fits (by decide) (by omega)
  have nn : 0 ≤ ((10 : Nat) : Int) ^ (max n 0).toNat := Int.pow_nonneg (by omega)
  have bl : blen (((10 : Nat) : Int) ^ (max n 0).toNat) ≤ 12000 := blen_le2 nn lt
  have P := npow_main ((10 : Nat) : Int) n 10 (max n 0).toNat 4 rfl (by omega) (by omega) (by omega) hk (by
    rcases Nat.eq_zero_or_pos (max n 0).toNat with h | h
    · exact .inl h
    · refine .inr ⟨h, ?_⟩
      have : 4 ≤ 65535 / (max n 0).toNat := (Nat.le_div_iff_mul_le h).2 (by omega)
      omega) w
  rw [powV, powE, if_pos (by omega), if_pos (by omega)] at P
  refine P.mono fun e w1 r => ?_
  obtain ⟨ws, A, m, c, i, hn', rfl, hc, hr, hb⟩ := r
  exact ⟨_, ⟨A, m, c, ws, rfl, hn', hc, hr, i, by rw [← hn']; exact i.le lt⟩, rfl, hb⟩
theorem dF_nr {p q : Int} (hp : 0 ≤ p) (hq : 0 < q) : dF 0 (rv false p q) = nrF p q := by
  rcases Int.lt_or_eq_of_le hp with c | c
  · obtain ⟨e1, e2, e3⟩ := nX_low (s := false) c hq
    have hne : ¬ rv false p q = 0 := by rw [rv_eq_zero hp (Int.le_of_lt hq)]; omega
    unfold dF nrF
    rw [if_neg hne, if_neg (by omega), e1, e2, e3]
  · subst c
    unfold dF nrF
    rw [if_pos (rv_zero (.inl rfl)), if_pos (.inl rfl)]
theorem near_le (l : List UInt8) (e : Int) (h : l.all isDig = true) : 0 ≤ nearV l e ∧ nearV l e ≤ 9218868437227405312 := by
  unfold nearV nrF
  split
  · decide
  · have := rMag_bd (md := 0) (neg := false) (s := sX (dval l * 10 ^ (max e 0).toNat) (10 ^ (max (-e) 0).toNat)) (nX_nn (p := dval l * 10 ^ (max e 0).toNat) (q := 10 ^ (max (-e) 0).toNat) (Int.mul_nonneg (dval_bd h).1 (Int.pow_nonneg (by decide))) (Int.pow_pos (by decide)))
    unfold rF
    show 0 ≤ rMag _ _ _ _ + 0 ∧ rMag _ _ _ _ + 0 ≤ _
    omega
theorem cls_inf {f : Int} (h0 : 0 ≤ f) (h1 : f ≤ 9218868437227405312) : fC f = 3 ↔ f = 9218868437227405312 := by
  constructor
  · intro h
    unfold fC at h
    split at h
    · rename_i he
      unfold fE at he
      omega
    · split at h
      · split at h <;> omega
      · omega
  · rintro rfl
    decide +kernel
/-- The text of a power. -/
theorem ptext {p : Int} {l : List UInt8} (h : IsRText (intR p) l) (hp : -400 ≤ p) (hp' : p ≤ 400) : rxOk l = true ∧ rxV l = p ∧ l.length ≤ 4 ∧ asc l = true := by
  obtain ⟨l1, l2, a, -, e⟩ := h
  obtain ⟨i1, i2, i3⟩ := intR_parts p
  rw [i1, i3, if_pos rfl, List.append_nil] at e
  rw [i2] at a
  have dg : digB l1 = true := digB_of a.dig a.ne
  have len : l1.length ≤ 3 := by
    by_cases h0 : ((p.natAbs : Nat) : Int) = 0
    · rw [a.zero h0]; decide
    · cases hl : l1 with
      | nil => simp
      | cons c m =>
        have hd := a.head h0 c (by rw [hl]; rfl)
        have d := dval_low (c := c) (m := m) (by rw [← hl]; exact a.dig) hd
        rw [← hl, a.val] at d
        have : m.length ≤ 2 := by
          rcases Nat.lt_or_ge m.length 3 with x | x
          · omega
          · exfalso
            have := pow10_mono 3 m.length x
            rw [show (10 : Int) ^ 3 = 1000 by decide] at this
            omega
        simp only [List.length_cons]
        omega
  by_cases hn : p < 0
  · rw [decide_eq_true hn, if_pos rfl] at e
    subst e
    obtain ⟨r1, r2⟩ := rx_neg dg
    refine ⟨r1, ?_, ?_, asc_cons (by decide) (asc_dig a.dig)⟩
    · show rxV (45 :: l1) = p
      rw [r2, a.val]
      omega
    · show (45 :: l1).length ≤ 4
      simp only [List.length_cons]
      omega
  · rw [decide_eq_false hn, if_neg (by decide), List.nil_append] at e
    subst e
    obtain ⟨r1, r2⟩ := rx_pos dg
    refine ⟨r1, ?_, by omega, asc_dig a.dig⟩
    rw [r2, a.val]
    omega
end Go.Proofs.YtgjgcehoakacoaaGreatDoor
