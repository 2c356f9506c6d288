/-
  Contracts of nat's addBack and divStep: one word of a quotient. Conditions: at most 2^20 words, each of 32 bits; the divisor's last word is not nought; the quotient is one word.
-/
import Derived.Test.YtaollppieonmbaaDoorNdivw
namespace Go.Proofs.YtaollppieonmbaaDoor
open Go.RowKit
set_option maxRecDepth 100000

/-- So many words have been added, from a place on; the carry. -/
structure AddBk (vs zs zs' : List Int) (off k : Nat) (c : Int) : Prop where
  len : zs'.length = zs.length
  all : AllW zs'
  eq : nv zs' + 2 ^ (32 * (off + k)) * c = nv zs + 2 ^ (32 * off) * nv (vs.take k)
  same : ∀ j, j < off ∨ off + k ≤ j → zs'.getD j 0 = zs.getD j 0
  c0 : 0 ≤ c
  c1 : c ≤ 1
theorem AddBk.next {vs zs zs' : List Int} {off k : Nat} {c y z : Int} (h : AddBk vs zs zs' off k c) (hk : off + k < zs.length) (hy : W32 y) (hz : W32 z) (ey : vs.getD k 0 = y) (ez : zs'.getD (off + k) 0 = z) :
    AddBk vs zs (zs'.set (off + k) (low32 (z + y + c))) off (k + 1) (car32 (z + y + c)) := by
  obtain ⟨h1, h2, h3, h4, h5, h6⟩ := h
  refine ⟨by rw [List.length_set, h1], h2.set _ (w32_low _), ?_, fun j hj => ?_, car_ge hz hy h5, car_le hz hy h6⟩
  · rw [nv_set _ _ _ (by rw [h1]; exact hk), nv_take_succ, ey, ez, ← Nat.add_assoc, pow32]
    have e2 := mul_car (2 ^ (32 * (off + k))) (car_low (z + y + c))
    have e3 : (2 : Int) ^ (32 * (off + k)) * y = 2 ^ (32 * off) * (2 ^ (32 * k) * y) := by rw [pow_off, Int.mul_assoc]
    rw [Int.mul_add, Int.mul_add, e3] at e2
    rw [Int.mul_sub, Int.mul_add (2 ^ (32 * off))]
    omega
  · rw [getD_set_ne _ _ _ _ (by omega)]
    exact h4 j (by omega)

set_option maxHeartbeats 3200000 in
theorem addBack_any (B : Option Addr) (g off ca m d : Nat) (vs zs : List Int) (w : World) (hm : vs.length = m) (hoff : off + m < zs.length) (hy : Rn w B vs) (hB : vs ≠ [] → ∀ a, B = some a → a.block ≠ g) (hv : AllW vs) (hz : AllW zs) (BZ : Blk w g 80 (wordArr zs)) (lm : m ≤ 1048577) :
    Calls Tryd.prog 90 #[.slice (some ⟨g, off, none⟩) (m + 1) ca, .slice B m d] w (IsMoved zs off m (nv vs) 1 g w) := by
  have HM := Lib.hid hm
  have HBB := Lib.hid hB
  clear hm hB
  go_enter Tryd.func90, Tryd.ntmps90
  go_wp2_with fail
  go_loopw [5, 9] (fun s5 s9 wr => ∃ (k : Nat) (us : List Int) (cr : Int), s5 = .int .u32 cr ∧ s9 = .int .i64 (k : Int) ∧ k ≤ m + 1 ∧ AddBk vs zs us off k cr ∧ Blk wr g 80 (wordArr us) ∧ Hid (Only g w wr)) (fun _ s9 _ => m + 1 - (intOf s9).toNat)
  case atStart => exact ⟨0, zs, 0, rfl, rfl, Nat.zero_le _, ⟨rfl, hz, by simp [nv], fun _ _ => rfl, by decide, by decide⟩, BZ, Only.refl _ _⟩
  case round =>
    clear BZ
    obtain ⟨k, us, cr, rfl, rfl, hk, T, BZ, HO⟩ := hrel
    have c0 := T.c0
    have c1 := T.c1
    by_cases hlt : k < m + 1
    · have hyr := hy.only HO.out HBB.out
      have wy := hv.getD k
      have wz := T.all.getD (off + k)
      have TN := Lib.hid (T.next (by omega) wy wz rfl rfl)
      have q0 : wr.drew.cell? ⟨g, off + k, none⟩ = some (.int .u32 (us.getD (off + k) 0)) := BZ.word (i := off + k) (by rw [T.len]; omega)
      have q1 : wr.drew.frozen? ⟨g, off + k, none⟩ = false := BZ.frozen (off + k)
      have C1 := Lib.hid (word_any B m d vs k wr.drew HM.out hyr.drew (by omega) (by omega))
      generalize vs.getD k 0 = y at *
      generalize us.getD (off + k) 0 = z at *
      have C2 := Lib.hid (fun w => add32 z y cr wz wy c0 c1 w)
      have BZ2 := (BZ.set_ (off + k) (.int .u32 (low32 (z + y + cr)))).drew
      rw [wordArr_set] at BZ2
      have HO2 : Hid (Only g w (wr.setCell ⟨g, off + k, none⟩ (.int .u32 (low32 (z + y + cr)))).drew) := (HO.out.set_ _ _).drew
      have hl1 : (k : Int) < (m : Int) + 1 := by omega
      generalize low32 (z + y + cr) = l at *
      generalize car32 (z + y + cr) = c' at *
      clear T BZ HO hyr
      go_upto_region 5 with fail
      go_region_with
        (first
          | (go_at_call 78; refine C1.out.mono ?_; rintro e w' ⟨rfl, rfl⟩)
          | (go_at_call 77; refine (C2.out _).mono ?_; rintro e w' ⟨rfl, rfl⟩))
      all_goals
        go_wp2_with fail
        go_roundw
        case rel => exact ⟨k + 1, _, c', rfl, by go_num, by omega, TN.out, BZ2, HO2⟩
        case measure => simp [intOf]; omega
    · have ek : k = m + 1 := by omega
      subst ek
      have FIN : Hid (Moved zs us off m (nv vs) (1 * cr)) := by
        have e := T.eq
        rw [List.take_of_length_le (by rw [HM.out]; omega)] at e
        exact ⟨T.len, T.all, by rw [Int.one_mul]; exact e, T.same⟩
      clear T
      go_wp2_with fail
      go_ret
      exact ⟨us, cr, FIN.out, c0, c1, rfl, BZ, HO.out⟩

/-- What divStep begins with: the word that is guessed is not too small. -/
structure StepIn (vs zs : List Int) (off m : Nat) : Prop where
  len : vs.length = m
  pos : 0 < m
  top : vs.getD (m - 1) 0 ≠ 0
  hv : AllW vs
  hz : AllW zs
  room : off + m < zs.length
  lt : nv zs < nv vs * 2 ^ (32 * (off + 1))
theorem StepIn.vpos {vs zs : List Int} {off m : Nat} (h : StepIn vs zs off m) : (2 : Int) ^ (32 * (m - 1)) * vs.getD (m - 1) 0 ≤ nv vs ∧ nv vs < 2 ^ (32 * m) ∧ 0 < nv vs := by
  have e : nv vs = nv (vs.take (m - 1)) + 2 ^ (32 * (m - 1)) * vs.getD (m - 1) 0 := by
    rw [← nv_take_succ, show m - 1 + 1 = m by have := h.pos; omega, List.take_of_length_le (by rw [h.len]; exact Nat.le_refl _)]
  have l0 := nv_nonneg _ (h.hv.take (m - 1))
  have l1 := nv_lt vs h.hv
  rw [h.len] at l1
  have w := (h.hv.getD (m - 1)).1
  have t := h.top
  have p := pow_pos' (32 * (m - 1))
  have : (2 : Int) ^ (32 * (m - 1)) * 1 ≤ 2 ^ (32 * (m - 1)) * vs.getD (m - 1) 0 := Int.mul_le_mul_of_nonneg_left (by omega) (Int.le_of_lt p)
  exact ⟨by omega, l1, by omega⟩
theorem StepIn.high {vs zs : List Int} {off m : Nat} (h : StepIn vs zs off m) : ∀ j, off + m + 1 ≤ j → zs.getD j 0 = 0 := by
  have h1 := h.vpos
  have h2 := h.lt
  have p := pow_pos' (32 * (off + 1))
  have h3 : nv vs * 2 ^ (32 * (off + 1)) ≤ 2 ^ (32 * m) * 2 ^ (32 * (off + 1)) := Int.mul_le_mul_of_nonneg_right (by omega) (Int.le_of_lt p)
  rw [← Int.pow_add, ← Nat.mul_add] at h3
  have h4 := tlen_bound h.hz (k := m + (off + 1)) (by omega)
  intro j hj
  exact tlen_high zs j (by omega)
/-- The quotient's word is at most what is guessed. -/
theorem StepIn.guess {vs zs : List Int} {off m : Nat} (h : StepIn vs zs off m) : (nv zs / 2 ^ (32 * off)) / nv vs < 4294967296 ∧ (nv zs / 2 ^ (32 * off)) / nv vs * vs.getD (m - 1) 0 ≤ zs.getD (off + m) 0 * 4294967296 + zs.getD (off + m - 1) 0 := by
  obtain ⟨v1, v2, v3⟩ := h.vpos
  have p := pow_pos' (32 * off)
  have hlt := h.lt
  have hz0 := nv_nonneg zs h.hz
  have hR : nv zs / 2 ^ (32 * off) < nv vs * 4294967296 := by
    rw [Int.ediv_lt_iff_lt_mul p, Int.mul_assoc, Int.mul_comm 4294967296, ← pow32]
    exact hlt
  have hR0 : 0 ≤ nv zs / 2 ^ (32 * off) := Int.ediv_nonneg hz0 (Int.le_of_lt p)
  have q0 := Int.ediv_nonneg hR0 (Int.le_of_lt v3)
  have q1 := Int.ediv_mul_le (nv zs / 2 ^ (32 * off)) (Int.ne_of_gt v3)
  refine ⟨by rw [Int.ediv_lt_iff_lt_mul v3, Int.mul_comm]; exact hR, ?_⟩
  have m1 := h.pos
  have eW : nv (zs.drop off) = nv ((zs.drop off).take (m + 1)) := by
    rcases Nat.lt_or_ge (zs.drop off).length (m + 1) with hh | hh
    · rw [List.take_of_length_le (by omega)]
    · exact nv_high hh fun j hj => by rw [getD0_drop]; exact h.high _ (by omega)
  rw [nv_div zs h.hz off] at q1 q0 ⊢
  rw [eW] at q1 q0 ⊢
  obtain ⟨i, rfl⟩ : ∃ i, m = i + 1 := ⟨m - 1, by omega⟩
  rw [nv_take_succ, nv_take_succ, getD0_drop, getD0_drop] at q1 q0 ⊢
  simp only [Nat.add_sub_cancel] at v1 ⊢
  rw [show off + (i + 1) - 1 = off + i by omega]
  have l0 := nv_nonneg _ ((h.hz.drop off).take i)
  have l1 := nv_lt _ ((h.hz.drop off).take i)
  have l2 := pow_mono (32 * ((zs.drop off).take i).length) (32 * i) (by rw [List.length_take]; omega)
  generalize nv ((zs.drop off).take i) = L at *
  have p32 := pow32 i
  rw [p32] at q1 q0 ⊢
  generalize zs.getD (off + (i + 1)) 0 = hi at *
  generalize zs.getD (off + i) 0 = nx at *
  generalize vs.getD i 0 = tp at *
  have pp := pow_pos' (32 * i)
  generalize (2 : Int) ^ (32 * i) = P at *
  generalize nv vs = V at *
  generalize (L + P * nx + P * 4294967296 * hi) / V = q at *
  have h1 : q * (P * tp) ≤ q * V := Int.mul_le_mul_of_nonneg_left v1 q0
  have h2 : P * (q * tp) < P * (hi * 4294967296 + nx + 1) := by
    have e1 : q * (P * tp) = P * (q * tp) := by rw [← Int.mul_assoc, Int.mul_comm q P, Int.mul_assoc]
    have e2 : P * (hi * 4294967296 + nx + 1) = P * 4294967296 * hi + P * nx + P := by rw [Int.mul_add, Int.mul_add, Int.mul_one, Int.mul_comm hi, ← Int.mul_assoc]
    omega
  have := Int.lt_of_mul_lt_mul_left h2 (Int.le_of_lt pp)
  omega

/-- The guess so far; the borrow tells whether it is too great. -/
structure StepTo (vs zs us : List Int) (off m : Nat) (G bo : Int) : Prop where
  mv : Moved zs us off m (-(nv vs * G)) (-1 * bo)
  ge : (nv zs / 2 ^ (32 * off)) / nv vs ≤ G
  hi : G < 4294967296
  b0 : 0 ≤ bo
  b1 : bo ≤ 1
theorem StepTo.more {vs zs us : List Int} {off m : Nat} {G : Int} (h : StepTo vs zs us off m G 1) (hs : StepIn vs zs off m) : 1 ≤ G ∧ (nv zs / 2 ^ (32 * off)) / nv vs ≤ G - 1 := by
  obtain ⟨v1, v2, v3⟩ := hs.vpos
  obtain ⟨h1, h2, h3, h4, h5⟩ := h
  have p := pow_pos' (32 * off)
  have e := h1.eq
  have ht : tlen us ≤ off + m + 1 := by
    rcases Nat.lt_or_ge (off + m + 1) (tlen us) with hh | hh
    · exfalso
      have t1 := tlen_top us (by omega)
      rw [h1.same _ (by omega), hs.high _ (by omega)] at t1
      exact t1 rfl
    · exact hh
  have l1 := tlen_lt us h1.all
  have l2 := pow_mono (32 * tlen us) (32 * (off + m + 1)) (by omega)
  have hz0 := nv_nonneg zs hs.hz
  have hR := Int.mul_ediv_add_emod (nv zs) (2 ^ (32 * off))
  have hL0 := Int.emod_nonneg (nv zs) (Int.ne_of_gt p)
  have hR0 : 0 ≤ nv zs / 2 ^ (32 * off) := Int.ediv_nonneg hz0 (Int.le_of_lt p)
  generalize nv zs / 2 ^ (32 * off) = R at *
  generalize nv zs % 2 ^ (32 * off) = L at *
  have hneg : R - nv vs * G < 0 := by
    rcases Int.lt_or_le (R - nv vs * G) 0 with hh | hh
    · exact hh
    · exfalso
      have := Int.mul_nonneg (Int.le_of_lt p) hh
      rw [Int.mul_sub] at this
      rw [Int.mul_neg] at e
      omega
  have hq : R / nv vs < G := by
    rw [Int.ediv_lt_iff_lt_mul v3, Int.mul_comm]
    omega
  have hq0 := Int.ediv_nonneg hR0 (Int.le_of_lt v3)
  exact ⟨by omega, by omega⟩
theorem StepTo.next {vs zs us us' : List Int} {off m : Nat} {G c : Int} (h : StepTo vs zs us off m G 1) (hs : StepIn vs zs off m) (hm : Moved us us' off m (nv vs) (1 * c)) (c0 : 0 ≤ c) (c1 : c ≤ 1) : StepTo vs zs us' off m (G - 1) (1 - c) := by
  obtain ⟨m1, m2⟩ := h.more hs
  obtain ⟨⟨a1, a2, a3, a4⟩, h2, h3, h4, h5⟩ := h
  obtain ⟨b1, b2, b3, b4⟩ := hm
  refine ⟨⟨by rw [b1, a1], b2, ?_, fun j hj => by rw [b4 j hj, a4 j hj]⟩, m2, by omega, by omega, by omega⟩
  rw [show -1 * (1 - c) = c - 1 by omega, Int.mul_sub (nv vs), Int.mul_one, Int.neg_sub, Int.mul_sub, Int.mul_sub, Int.mul_one]
  rw [show (-1 : Int) * 1 = -1 by decide, Int.mul_neg, Int.mul_neg, Int.mul_one] at a3
  rw [Int.one_mul] at b3
  omega
theorem StepTo.done {vs zs us : List Int} {off m : Nat} {G : Int} (h : StepTo vs zs us off m G 0) (hs : StepIn vs zs off m) : 0 ≤ G ∧ nv zs = nv us + 2 ^ (32 * off) * (nv vs * G) ∧ nv us < nv vs * 2 ^ (32 * off) := by
  obtain ⟨v1, v2, v3⟩ := hs.vpos
  obtain ⟨h1, h2, h3, h4, h5⟩ := h
  have p := pow_pos' (32 * off)
  have e := h1.eq
  have hz0 := nv_nonneg zs hs.hz
  have hR := Int.mul_ediv_add_emod (nv zs) (2 ^ (32 * off))
  have hL0 := Int.emod_nonneg (nv zs) (Int.ne_of_gt p)
  have hL1 := Int.emod_lt_of_pos (nv zs) p
  have hR0 : 0 ≤ nv zs / 2 ^ (32 * off) := Int.ediv_nonneg hz0 (Int.le_of_lt p)
  have hq0 := Int.ediv_nonneg hR0 (Int.le_of_lt v3)
  have hq1 := Int.lt_ediv_add_one_mul_self (nv zs / 2 ^ (32 * off)) v3
  have e2 : nv zs = nv us + 2 ^ (32 * off) * (nv vs * G) := by
    rw [Int.mul_neg, Int.mul_zero, Int.mul_zero] at e
    omega
  refine ⟨by omega, e2, ?_⟩
  generalize nv zs / 2 ^ (32 * off) = R at *
  generalize nv zs % 2 ^ (32 * off) = L at *
  have h6 : R < nv vs * G + nv vs := by
    have : (R / nv vs + 1) * nv vs ≤ (G + 1) * nv vs := Int.mul_le_mul_of_nonneg_right (by omega) (Int.le_of_lt v3)
    have e5 : (G + 1) * nv vs = nv vs * G + nv vs := by rw [Int.add_mul, Int.one_mul, Int.mul_comm]
    omega
  have h7 : 2 ^ (32 * off) * (R + 1) ≤ 2 ^ (32 * off) * (nv vs * G + nv vs) := Int.mul_le_mul_of_nonneg_left (by omega) (Int.le_of_lt p)
  rw [Int.mul_add, Int.mul_add, Int.mul_one, Int.mul_comm _ (nv vs)] at h7
  omega

/-- What divStep hands back. -/
def IsStep (vs zs : List Int) (off : Nat) (g : Nat) (w : World) (e : Ending) (w' : World) : Prop :=
  ∃ (us : List Int) (q : Int), W32 q ∧ us.length = zs.length ∧ AllW us ∧ nv zs = nv us + 2 ^ (32 * off) * (nv vs * q) ∧ nv us < nv vs * 2 ^ (32 * off) ∧ e = .returned (.int .u32 q) ∧ Blk w' g 80 (wordArr us) ∧ Only g w w'

set_option maxHeartbeats 3200000 in
theorem divStep_any (B : Option Addr) (g off ca m d : Nat) (vs zs : List Int) (w : World) (S : StepIn vs zs off m) (hy : Rn w B vs) (hB : ∀ a, B = some a → a.block ≠ g) (BZ : Blk w g 80 (wordArr zs)) (lm : m ≤ 1048577) :
    Calls Tryd.prog 88 #[.slice (some ⟨g, off, none⟩) (m + 1) ca, .slice B m d] w (IsStep vs zs off g w) := by
  have HS := Lib.hid S
  have HBB := Lib.hid hB
  obtain ⟨i, hi⟩ : ∃ i, m = i + 1 := ⟨m - 1, by have := S.pos; omega⟩
  obtain ⟨g2, off2, rfl, hg2, hc2⟩ := hy.at_ (i := i) (by rw [S.len]; omega)
  have q0 : w.drew.cell? ⟨g, off + m, none⟩ = some (.int .u32 (zs.getD (off + m) 0)) := BZ.word (by have := S.room; omega)
  have q1 := BZ.word (i := off + i) (by have := S.room; omega)
  have q2 : w.drew.cell? ⟨g2, off2 + i, none⟩ = some (.int .u32 (vs.getD i 0)) := hc2
  have GS := S.guess
  rw [hi] at GS
  simp only [Nat.add_sub_cancel] at GS
  rw [show off + (i + 1) - 1 = off + i by omega, ← hi] at GS
  have wh := S.hz.getD (off + m)
  have wn := S.hz.getD (off + i)
  have wt := S.hv.getD i
  have ht := S.top
  rw [hi] at ht
  simp only [Nat.add_sub_cancel] at ht
  obtain ⟨Q, hQ⟩ : ∃ Q, (nv zs / 2 ^ (32 * off)) / nv vs = Q := ⟨_, rfl⟩
  have HQ := Lib.hid hQ
  rw [hQ] at GS
  obtain ⟨gs1, gs2⟩ := GS
  generalize zs.getD (off + m) 0 = hi' at *
  generalize zs.getD (off + i) 0 = nx at *
  generalize vs.getD i 0 = tp at *
  have e1 : (m : Int) - 1 = (i : Int) := by omega
  have hl1 : (m : Int) < (m : Int) + 1 := by omega
  have hl2 : (i : Int) < (m : Int) := by omega
  have hl3 : (i : Int) < (m : Int) + 1 := by omega
  clear hi hQ S hc2 hB
  go_enter Tryd.func88, Tryd.ntmps88
  go_upto_region 1 with fail
  go_region
  have B1 := BZ.drew
  have O1 : Hid (Only g w w.drew) := (Only.refl g w).drew
  have y1 := hy.drew
  have r1 : w.drew.cell? ⟨g, off + i, none⟩ = some (.int .u32 nx) := q1
  clear q0 q1 q2 hy BZ
  generalize w.drew = w1 at *
  go_upto_if 22 with fail
  go_cut [7] (fun s7 wx => ∃ G : Int, s7 = .int .u32 G ∧ W32 G ∧ Q ≤ G ∧ Below w1.heap.size w1 wx)
  case first =>
    by_cases h : hi' < tp
    · go_wp2_with fail
      refine (div32 hi' nx tp wh wn wt h _).mono ?_
      rintro e w2 ⟨G, r, wG, wr, hr, heq, rfl, hb⟩
      have hG : Q ≤ G := by
        have : Q * tp < (G + 1) * tp := by rw [Int.add_mul, Int.one_mul]; omega
        have := Int.lt_of_mul_lt_mul_right this wt.1
        omega
      clear heq
      go_wp2_with fail
      go_meet
      exact ⟨G, rfl, wG, hG, hb⟩
    · go_wp2_with fail
      go_meet
      exact ⟨4294967295, rfl, ⟨by decide, by decide⟩, by omega, Below.refl _ _⟩
  case rest =>
    obtain ⟨G, rfl, wG, hG, hb⟩ := hcut
    have B2 := B1.below hb B1.lt
    have O2 : Hid (Only g w _) := O1.out.trans (Only.of_below hb B1.lt)
    have y2 := y1.below hb (Nat.le_refl _)
    have S := HS.out
    go_wp2_with fail
    refine (subProduct_any _ g off ca m d vs zs G _ S.len S.room y2 (fun _ => HBB.out) S.hv S.hz wG B2 lm).mono ?_
    rintro e w3 ⟨us, bo, hmv, b0, b1, rfl, B3, O3⟩
    have T0 : StepTo vs zs us off m G bo := ⟨hmv, by rw [HQ.out]; exact hG, wG.2, b0, b1⟩
    have O4 := Lib.hid (O2.out.trans O3)
    have y3 := y2.only O3 (fun _ => HBB.out)
    have z3 := y3
    clear hmv O2 O3 B1 B2 y1 y2 hb r1 O1
    go_wp2_with fail
    go_loopw [7, 8] (fun s7 s8 wr => ∃ (G bo : Int) (us : List Int), s7 = .int .u32 G ∧ s8 = .int .u32 bo ∧ StepTo vs zs us off m G bo ∧ Blk wr g 80 (wordArr us) ∧ Hid (Only g w wr) ∧ Rn wr (some ⟨g2, off2, none⟩) vs) (fun s7 _ _ => (intOf s7).toNat)
    case atStart => exact ⟨G, bo, us, rfl, rfl, T0, B3, O4, y3⟩
    case round =>
      clear T0 B3 O4 y3 z3
      obtain ⟨G, bo, us, rfl, rfl, T, BZ, HO, yr⟩ := hrel
      by_cases h0 : bo = 0
      · subst h0
        obtain ⟨g0, d1, d2⟩ := T.done HS.out
        have hG1 := T.hi
        have D1 := Lib.hid d1
        have HL := Lib.hid T.mv.len
        have ha := T.mv.all
        clear d1 T
        go_wp2_with fail
        go_ret
        exact ⟨us, G, ⟨g0, hG1⟩, HL.out, ha, D1.out, d2, rfl, BZ, HO.out⟩
      · have e0 : bo = 1 := by have := T.b0; have := T.b1; omega
        subst e0
        obtain ⟨m1, -⟩ := T.more HS.out
        have hG1 := T.hi
        have S := HS.out
        have TN : Hid (∀ us' c, Moved us us' off m (nv vs) (1 * c) → 0 ≤ c → c ≤ 1 → StepTo vs zs us' off m (G - 1) (1 - c)) := fun us' c h1 h2 h3 => T.next HS.out h1 h2 h3
        have hl : off + m < us.length := by rw [T.mv.len]; exact HS.out.room
        have ha := T.mv.all
        clear T h0
        go_wp2_with fail
        refine (addBack_any _ g off ca m d vs us _ S.len hl yr (fun _ => HBB.out) S.hv ha BZ lm).mono ?_
        rintro e w4 ⟨us', cc, hmv, c0, c1, rfl, B4, O5⟩
        have T2 := TN.out us' cc hmv c0 c1
        have y4 := yr.only O5 (fun _ => HBB.out)
        have O6 := Lib.hid (HO.out.trans O5)
        clear hmv TN O5 HO BZ yr
        go_wp2_with fail
        go_roundw
        case rel => exact ⟨G - 1, 1 - cc, us', rfl, rfl, T2, B4, O6, y4⟩
        case measure => simp [intOf]; omega
end Go.Proofs.YtaollppieonmbaaDoor
