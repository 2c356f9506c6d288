/-
  Contracts of nat's New, Len, Bit, Uint, Shr and Shl. Conditions: at most 2^20 words, each of 32 bits.
  Contracts of nat's Shr and Shl, for every shift. Conditions: at most 2^20 words, each of 32 bits.
  Contracts of nat's divWord, subProduct and addBack. Conditions: at most 2^20 words, each of 32 bits; the divisor is not nought.
  Contracts of nat's addBack and divStep: one word of a quotient. Conditions: at most 2^20 words, each of 32 bits; the divisor's last word is not nought; the quotient is one word.
-/
import Derived.Test.YtmeobamfjcjbhaaMNa
import Derived.Test.YtmeobamfjcjbhaaMR
import Derived.IntWalk
namespace Go.Proofs.Ytmeobamfjcjbhaa
open Go.RowKit

theorem Blk.words2 {w : World} {g : Nat} {t : TypeId} {ws : List Int} (h : Blk w g t (wordArr ws)) : Rn w (some ⟨g, 0, none⟩) ws := by
  refine .inr ⟨g, 0, rfl, h.lt, fun i b hi => ?_⟩
  have hl : i < ws.length := by
    rcases Nat.lt_or_ge i ws.length with h | h
    · exact h
    · rw [List.getElem?_eq_none h] at hi; cases hi
  rw [h.cell (0 + i), Nat.zero_add, wordArr_get ws i hl, List.getD_eq_getElem?_getD, hi]
  rfl
theorem ret_nat {v : Int} {ws : List Int} {A : Option Addr} {n c : Nat} {W w : World} {g : Nat} (hn : IsNat v ws) (hl : ws.length = n) (hc : n ≤ c) (hr : Rn w A ws) (hf : ∀ a, A = some a → (some ⟨g, 0, none⟩ : Option Addr) = some a) (hg : W.heap.size ≤ g) (hb : Below W.heap.size W w) : RetN v W (.returned (.slice A n c)) w :=
  ⟨ws, A, n, c, hn, hl, rfl, hc, hr, fun a h => by injection hf a h with h; rw [← h]; exact hg, hb⟩

theorem blen_nv {ws : List Int} {k : Nat} (ha : AllW ws) (ht : tlen ws = k + 1) : blen (nv ws) = (k : Int) * 32 + blen (ws.getD k 0) := by
  have hne : ws.getD k 0 ≠ 0 := by have := tlen_top ws (by omega); rw [ht] at this; exact this
  have wx := ha.getD k
  obtain ⟨b, eb, lt, ge, _⟩ := blen_spec wx.1
  obtain ⟨g1, g2⟩ := ge (by have := wx.1; omega)
  have e : nv ws = nv (ws.take k) + 2 ^ (32 * k) * ws.getD k 0 := by rw [← nv_trim ws, ht, nv_take_succ]
  have l0 := nv_nonneg _ (ha.take k)
  have l1 := nv_lt _ (ha.take k)
  rw [List.length_take] at l1
  have l2 := pow_mono (32 * min k ws.length) (32 * k) (by omega)
  rw [eb]
  have hh : blen (nv ws) = ((32 * k + b : Nat) : Int) := by
    refine blen_eq (by omega) ?_ ?_
    · rw [show 32 * k + b - 1 = 32 * k + (b - 1) by omega, Int.pow_add]
      have := Int.mul_le_mul_of_nonneg_left g1 (Int.le_of_lt (pow_pos' (32 * k)))
      omega
    · rw [Int.pow_add]
      have h2 : (2 : Int) ^ (32 * k) * (ws.getD k 0 + 1) ≤ 2 ^ (32 * k) * 2 ^ b := Int.mul_le_mul_of_nonneg_left (by omega) (Int.le_of_lt (pow_pos' (32 * k)))
      rw [Int.mul_add] at h2
      omega
  rw [hh]
  omega

theorem nv_div (us : List Int) (hu : AllW us) (q : Nat) : nv us / 2 ^ (32 * q) = nv (us.drop q) := by
  rcases Nat.lt_or_ge us.length q with h | h
  · rw [List.drop_eq_nil_of_le (by omega)]
    have := nv_lt us hu
    have := pow_mono (32 * us.length) (32 * q) (by omega)
    exact Int.ediv_eq_zero_of_lt (nv_nonneg us hu) (by omega)
  · have e := nv_take_drop us q h
    have h0 := nv_nonneg _ (hu.take q)
    have h1 := nv_lt _ (hu.take q)
    rw [List.length_take, Nat.min_eq_left h] at h1
    rw [e, Int.add_mul_ediv_left _ _ (Int.ne_of_gt (pow_pos' _)), Int.ediv_eq_zero_of_lt h0 h1, Int.zero_add]
theorem nv_bit (us : List Int) (hu : AllW us) (q r : Nat) (hr : r < 32) : nv us / 2 ^ (32 * q + r) % 2 = us.getD q 0 / 2 ^ r % 2 := by
  rw [Int.pow_add, ← Int.ediv_ediv_of_nonneg (Int.le_of_lt (pow_pos' _)), nv_div us hu q, nv_tail (us.drop q), getD0_drop, Nat.add_zero]
  have e : (4294967296 : Int) = 2 ^ r * (2 ^ (31 - r) * 2) := by
    rw [← Int.pow_succ, ← Int.pow_add, show r + (31 - r + 1) = 32 by omega]
    decide
  rw [e, Int.mul_assoc, Int.add_mul_ediv_left _ _ (Int.ne_of_gt (pow_pos' _)), Int.mul_comm (2 ^ (31 - r)) 2, Int.mul_assoc]
  omega

/-- The bit of 2^i. -/
def bitN (v i : Int) : Int := if i < 0 then 0 else v / 2 ^ i.toNat % 2
theorem nv_two {us : List Int} (_hu : AllW us) (h : tlen us ≤ 2) : nv us = us.getD 1 0 * 4294967296 + us.getD 0 0 := by
  rw [nv_same us [us.getD 0 0, us.getD 1 0] fun j => ?_]
  · simp [nv]; omega
  · rcases j with _ | _ | j
    · simp
    · simp
    · rw [tlen_high us _ (by omega)]; rfl
/-- What Uint hands back. -/
def uintV (v : Int) : Int := if v < 18446744073709551616 then v else 0
/-- So many words have been shifted down. -/
structure ShrTo (us zs : List Int) (n r k : Nat) : Prop where
  len : zs.length = n
  all : AllW zs
  eq : nv (zs.take k) * 2 ^ r + us.getD 0 0 % 2 ^ r = nv (us.take k) + 2 ^ (32 * k) * (us.getD k 0 % 2 ^ r)
theorem ShrTo.next {us zs : List Int} {n r k : Nat} {x y : Int} (h : ShrTo us zs n r k) (hr : r < 32) (hx : W32 x) (ex : us.getD k 0 = x) (ey : us.getD (k + 1) 0 = y) (hk : k < n) :
    ShrTo us (zs.set k (x / 2 ^ r + IntKind.u32.wrap (y * 2 ^ (32 - r)))) n r (k + 1) := by
  obtain ⟨h1, h2, h3⟩ := h
  have b1 := wrap_room y (32 - r) (by omega)
  have b2 := shr_lt hx (32 - r) (by omega)
  have b3 := wrap_mul y (32 - r) (by omega)
  rw [show 32 - (32 - r) = r by omega] at b2 b3
  refine ⟨by rw [List.length_set, h1], h2.set _ ⟨by omega, by omega⟩, ?_⟩
  rw [nv_take_succ, nv_take_succ, take_set, getD_set _ _ _ (by omega), ex, ey, b3, pow32]
  rw [ex] at h3
  have e1 := Int.ediv_mul_add_emod x (2 ^ r)
  have e2 : y % 2 ^ r * 2 ^ (32 - r) * 2 ^ r = y % 2 ^ r * 4294967296 := by rw [Int.mul_assoc, pow_split r (by omega)]
  have e3 : 2 ^ (32 * k) * (x / 2 ^ r + y % 2 ^ r * 2 ^ (32 - r)) * 2 ^ r = 2 ^ (32 * k) * (x - x % 2 ^ r) + 2 ^ (32 * k) * 4294967296 * (y % 2 ^ r) := by
    rw [Int.mul_assoc, Int.add_mul, e2, show x / 2 ^ r * 2 ^ r = x - x % 2 ^ r by omega, Int.mul_add, Int.mul_comm (y % 2 ^ r), ← Int.mul_assoc (2 ^ (32 * k)) 4294967296]
  rw [Int.add_mul, e3, Int.mul_sub]
  omega
theorem ShrTo.done {us zs : List Int} {n r : Nat} (h : ShrTo us zs n r n) (hn : us.length = n) : nv zs = nv us / 2 ^ r := by
  have e := h.eq
  rw [List.take_of_length_le (by rw [h.len]; exact Nat.le_refl _), List.take_of_length_le (by omega), getD0_past us n (by omega)] at e
  have hp := pow_pos' r
  have r0 := Int.emod_nonneg (us.getD 0 0) (Int.ne_of_gt hp)
  have r1 := Int.emod_lt_of_pos (us.getD 0 0) hp
  rw [Int.zero_emod, Int.mul_zero, Int.add_zero] at e
  have e2 : nv us = us.getD 0 0 % 2 ^ r + nv zs * 2 ^ r := by omega
  rw [e2, Int.add_mul_ediv_right _ _ (Int.ne_of_gt hp), Int.ediv_eq_zero_of_lt r0 r1, Int.zero_add]
end Go.Proofs.Ytmeobamfjcjbhaa
namespace Go.Proofs.Ytmeobamfjcjbhaa
open Go.RowKit
set_option maxRecDepth 100000

/-- What Shl hands back. -/
def RetShl (v : Int) (er : Int) (w : World) (e : Ending) (w' : World) : Prop :=
  ∃ (ws : List Int) (A : Option Addr) (n c : Nat), IsNat v ws ∧ ws.length = n ∧ e = .returned (.tuple #[.slice A n c, .int .i64 er]) ∧ n ≤ c ∧ Rn w' A ws ∧ Below w.heap.size w w'
end Go.Proofs.Ytmeobamfjcjbhaa
namespace Go.Proofs.Ytmeobamfjcjbhaa
open Go.RowKit
set_option maxRecDepth 100000

/-- The quotient's words from K on are found; r is what is left of the dividend's words from K on. -/
structure DivW (us zs : List Int) (n K : Nat) (b r : Int) : Prop where
  len : zs.length = n
  all : AllW zs
  eq : nv zs * b + 2 ^ (32 * K) * r + nv (us.take K) = nv us
  low : ∀ j, j < K → zs.getD j 0 = 0
  r0 : 0 ≤ r
  r1 : r < b
theorem DivW.next {us zs : List Int} {n i : Nat} {b r x q r' : Int} (h : DivW us zs n (i + 1) b r) (hi : i < n) (ex : us.getD i 0 = x) (hq : W32 q) (hr : 0 ≤ r') (hr' : r' < b) (e : q * b + r' = r * 4294967296 + x) : DivW us (zs.set i q) n i b r' := by
  obtain ⟨h1, h2, h3, h4, h5, h6⟩ := h
  refine ⟨by rw [List.length_set, h1], h2.set _ hq, ?_, fun j hj => ?_, hr, hr'⟩
  · rw [nv_set _ _ _ (by omega), h4 i (by omega), Int.sub_zero, Int.add_mul]
    rw [nv_take_succ, ex, pow32] at h3
    have e2 : 2 ^ (32 * i) * (q * b + r') = 2 ^ (32 * i) * (r * 4294967296 + x) := by rw [e]
    rw [Int.mul_add, Int.mul_add, ← Int.mul_assoc, Int.mul_comm r, ← Int.mul_assoc] at e2
    omega
  · rw [getD_set_ne _ _ _ _ (by omega)]
    exact h4 j (by omega)

/-- The address leads to a block of words. -/
def TB (w : World) (A : Option Addr) : Prop := ∀ a, A = some a → ∃ cs, Blk w a.block 113 cs
/-- So many words' products have been taken away, from a place on; the carry, and the borrow. -/
structure SubPr (vs zs zs' : List Int) (x : Int) (off k : Nat) (cr bo : Int) : Prop where
  len : zs'.length = zs.length
  all : AllW zs'
  eq : nv zs' - 2 ^ (32 * (off + k)) * (cr + bo) = nv zs - 2 ^ (32 * off) * (nv (vs.take k) * x)
  same : ∀ j, j < off ∨ off + k ≤ j → zs'.getD j 0 = zs.getD j 0
  car : W32 cr
  b0 : 0 ≤ bo
  b1 : bo ≤ 1
theorem SubPr.next {vs zs zs' : List Int} {x y z : Int} {off k : Nat} {cr bo : Int} (h : SubPr vs zs zs' x off k cr bo) (hk : off + k < zs.length) (hx : W32 x) (hy : W32 y) (hz : W32 z) (ey : vs.getD k 0 = y) (ez : zs'.getD (off + k) 0 = z) :
    SubPr vs zs (zs'.set (off + k) (low32 (z - (low32 (y * x + cr) + bo)))) x off (k + 1) (car32 (y * x + cr)) (bor32 z (low32 (y * x + cr) + bo)) := by
  obtain ⟨h1, h2, h3, h4, h5, h6, h7⟩ := h
  have pb := prod_bd hx hy
  refine ⟨by rw [List.length_set, h1], h2.set _ (w32_low _), ?_, fun j hj => ?_, ?_, bor32_ge _ _, bor32_le _ _⟩
  · rw [nv_set _ _ _ (by rw [h1]; exact hk), nv_take_succ, ey, ez, ← Nat.add_assoc, pow32]
    have wl := w32_low (y * x + cr)
    have e1 := car_low (y * x + cr)
    have e0 := bor32_low hz (y := low32 (y * x + cr) + bo) (by have := wl.1; omega) (by have := wl.2; omega)
    generalize low32 (z - (low32 (y * x + cr) + bo)) = l at *
    generalize bor32 z (low32 (y * x + cr) + bo) = b' at *
    generalize low32 (y * x + cr) = t at *
    generalize car32 (y * x + cr) = c' at *
    have e2 : (-(c' + b')) * 4294967296 + l = z - bo - (y * x + cr) := by omega
    have e3 := mul_car (2 ^ (32 * (off + k))) e2
    have e4 : (2 : Int) ^ (32 * (off + k)) * (y * x) = 2 ^ (32 * off) * (2 ^ (32 * k) * y * x) := by rw [pow_off, Int.mul_assoc, Int.mul_assoc]
    rw [Int.mul_sub, Int.mul_sub, Int.mul_add, Int.mul_neg, e4] at e3
    rw [Int.mul_add] at h3
    rw [Int.mul_sub, Int.add_mul, Int.mul_add (2 ^ (32 * off))]
    omega
  · rw [getD_set_ne _ _ _ _ (by omega)]
    exact h4 j (by omega)
  · obtain ⟨_, _⟩ := hz
    obtain ⟨_, _⟩ := h5
    constructor <;> unfold car32 <;> omega
/-- The last word. -/
theorem SubPr.last {vs zs zs' : List Int} {x z : Int} {off m : Nat} {cr bo : Int} (h : SubPr vs zs zs' x off m cr bo) (hm : vs.length = m) (hk : off + m < zs.length) (hz : W32 z) (ez : zs'.getD (off + m) 0 = z) :
    nv (zs'.set (off + m) (low32 (z - (cr + bo)))) - 2 ^ (32 * (off + m + 1)) * bor32 z (cr + bo) = nv zs - 2 ^ (32 * off) * (nv vs * x) := by
  obtain ⟨h1, h2, h3, h4, h5, h6, h7⟩ := h
  rw [nv_set _ _ _ (by rw [h1]; exact hk), ez, pow32]
  have e0 := bor32_low hz (y := cr + bo) (by have := h5.1; omega) (by have := h5.2; omega)
  generalize low32 (z - (cr + bo)) = l at *
  generalize bor32 z (cr + bo) = b' at *
  have e2 : (-b') * 4294967296 + l = z - (cr + bo) := by omega
  have e3 := mul_car (2 ^ (32 * (off + m))) e2
  rw [List.take_of_length_le (by omega)] at h3
  rw [Int.mul_sub, Int.mul_neg] at e3
  rw [Int.mul_sub]
  omega

/-- What subProduct and addBack hand back: d is what was added at the place off; the words outside off .. off + m are as they were. -/
structure Moved (zs zs' : List Int) (off m : Nat) (d bo : Int) : Prop where
  len : zs'.length = zs.length
  all : AllW zs'
  eq : nv zs' + 2 ^ (32 * (off + m + 1)) * bo = nv zs + 2 ^ (32 * off) * d
  same : ∀ j, j < off ∨ off + m + 1 ≤ j → zs'.getD j 0 = zs.getD j 0
def IsMoved (zs : List Int) (off m : Nat) (d : Int) (sg : Int) (g : Nat) (w : World) (e : Ending) (w' : World) : Prop :=
  ∃ (zs' : List Int) (bo : Int), Moved zs zs' off m d (sg * bo) ∧ 0 ≤ bo ∧ bo ≤ 1 ∧ e = .returned (.int .u32 bo) ∧ Blk w' g 113 (wordArr zs') ∧ Only g w w'

end Go.Proofs.Ytmeobamfjcjbhaa
namespace Go.Proofs.Ytmeobamfjcjbhaa
open Go.RowKit
set_option maxRecDepth 100000

/-- So many words have been added, from a place on; the carry. -/
structure AddBk (vs zs zs' : List Int) (off k : Nat) (c : Int) : Prop where
  len : zs'.length = zs.length
  all : AllW zs'
  eq : nv zs' + 2 ^ (32 * (off + k)) * c = nv zs + 2 ^ (32 * off) * nv (vs.take k)
  same : ∀ j, j < off ∨ off + k ≤ j → zs'.getD j 0 = zs.getD j 0
  c0 : 0 ≤ c
  c1 : c ≤ 1
theorem AddBk.next {vs zs zs' : List Int} {off k : Nat} {c y z : Int} (h : AddBk vs zs zs' off k c) (hk : off + k < zs.length) (hy : W32 y) (hz : W32 z) (ey : vs.getD k 0 = y) (ez : zs'.getD (off + k) 0 = z) :
    AddBk vs zs (zs'.set (off + k) (low32 (z + y + c))) off (k + 1) (car32 (z + y + c)) := by
  obtain ⟨h1, h2, h3, h4, h5, h6⟩ := h
  refine ⟨by rw [List.length_set, h1], h2.set _ (w32_low _), ?_, fun j hj => ?_, car_ge hz hy h5, car_le hz hy h6⟩
  · rw [nv_set _ _ _ (by rw [h1]; exact hk), nv_take_succ, ey, ez, ← Nat.add_assoc, pow32]
    have e2 := mul_car (2 ^ (32 * (off + k))) (car_low (z + y + c))
    have e3 : (2 : Int) ^ (32 * (off + k)) * y = 2 ^ (32 * off) * (2 ^ (32 * k) * y) := by rw [pow_off, Int.mul_assoc]
    rw [Int.mul_add, Int.mul_add, e3] at e2
    rw [Int.mul_sub, Int.mul_add (2 ^ (32 * off))]
    omega
  · rw [getD_set_ne _ _ _ _ (by omega)]
    exact h4 j (by omega)

/-- What divStep begins with: the word that is guessed is not too small. -/
structure StepIn (vs zs : List Int) (off m : Nat) : Prop where
  len : vs.length = m
  pos : 0 < m
  top : vs.getD (m - 1) 0 ≠ 0
  hv : AllW vs
  hz : AllW zs
  room : off + m < zs.length
  lt : nv zs < nv vs * 2 ^ (32 * (off + 1))
theorem StepIn.vpos {vs zs : List Int} {off m : Nat} (h : StepIn vs zs off m) : (2 : Int) ^ (32 * (m - 1)) * vs.getD (m - 1) 0 ≤ nv vs ∧ nv vs < 2 ^ (32 * m) ∧ 0 < nv vs := by
  have e : nv vs = nv (vs.take (m - 1)) + 2 ^ (32 * (m - 1)) * vs.getD (m - 1) 0 := by
    rw [← nv_take_succ, show m - 1 + 1 = m by have := h.pos; omega, List.take_of_length_le (by rw [h.len]; exact Nat.le_refl _)]
  have l0 := nv_nonneg _ (h.hv.take (m - 1))
  have l1 := nv_lt vs h.hv
  rw [h.len] at l1
  have w := (h.hv.getD (m - 1)).1
  have t := h.top
  have p := pow_pos' (32 * (m - 1))
  have : (2 : Int) ^ (32 * (m - 1)) * 1 ≤ 2 ^ (32 * (m - 1)) * vs.getD (m - 1) 0 := Int.mul_le_mul_of_nonneg_left (by omega) (Int.le_of_lt p)
  exact ⟨by omega, l1, by omega⟩
theorem StepIn.high {vs zs : List Int} {off m : Nat} (h : StepIn vs zs off m) : ∀ j, off + m + 1 ≤ j → zs.getD j 0 = 0 := by
  have h1 := h.vpos
  have h2 := h.lt
  have p := pow_pos' (32 * (off + 1))
  have h3 : nv vs * 2 ^ (32 * (off + 1)) ≤ 2 ^ (32 * m) * 2 ^ (32 * (off + 1)) := Int.mul_le_mul_of_nonneg_right (by omega) (Int.le_of_lt p)
  rw [← Int.pow_add, ← Nat.mul_add] at h3
  have h4 := tlen_bound h.hz (k := m + (off + 1)) (by omega)
  intro j hj
  exact tlen_high zs j (by omega)
/-- The quotient's word is at most what is guessed. -/
theorem StepIn.guess {vs zs : List Int} {off m : Nat} (h : StepIn vs zs off m) : (nv zs / 2 ^ (32 * off)) / nv vs < 4294967296 ∧ (nv zs / 2 ^ (32 * off)) / nv vs * vs.getD (m - 1) 0 ≤ zs.getD (off + m) 0 * 4294967296 + zs.getD (off + m - 1) 0 := by
  obtain ⟨v1, v2, v3⟩ := h.vpos
  have p := pow_pos' (32 * off)
  have hlt := h.lt
  have hz0 := nv_nonneg zs h.hz
  have hR : nv zs / 2 ^ (32 * off) < nv vs * 4294967296 := by
    rw [Int.ediv_lt_iff_lt_mul p, Int.mul_assoc, Int.mul_comm 4294967296, ← pow32]
    exact hlt
  have hR0 : 0 ≤ nv zs / 2 ^ (32 * off) := Int.ediv_nonneg hz0 (Int.le_of_lt p)
  have q0 := Int.ediv_nonneg hR0 (Int.le_of_lt v3)
  have q1 := Int.ediv_mul_le (nv zs / 2 ^ (32 * off)) (Int.ne_of_gt v3)
  refine ⟨by rw [Int.ediv_lt_iff_lt_mul v3, Int.mul_comm]; exact hR, ?_⟩
  have m1 := h.pos
  have eW : nv (zs.drop off) = nv ((zs.drop off).take (m + 1)) := by
    rcases Nat.lt_or_ge (zs.drop off).length (m + 1) with hh | hh
    · rw [List.take_of_length_le (by omega)]
    · exact nv_high hh fun j hj => by rw [getD0_drop]; exact h.high _ (by omega)
  rw [nv_div zs h.hz off] at q1 q0 ⊢
  rw [eW] at q1 q0 ⊢
  obtain ⟨i, rfl⟩ : ∃ i, m = i + 1 := ⟨m - 1, by omega⟩
  rw [nv_take_succ, nv_take_succ, getD0_drop, getD0_drop] at q1 q0 ⊢
  simp only [Nat.add_sub_cancel] at v1 ⊢
  rw [show off + (i + 1) - 1 = off + i by omega]
  have l0 := nv_nonneg _ ((h.hz.drop off).take i)
  have l1 := nv_lt _ ((h.hz.drop off).take i)
  have l2 := pow_mono (32 * ((zs.drop off).take i).length) (32 * i) (by rw [List.length_take]; omega)
  generalize nv ((zs.drop off).take i) = L at *
  have p32 := pow32 i
  rw [p32] at q1 q0 ⊢
  generalize zs.getD (off + (i + 1)) 0 = hi at *
  generalize zs.getD (off + i) 0 = nx at *
  generalize vs.getD i 0 = tp at *
  have pp := pow_pos' (32 * i)
  generalize (2 : Int) ^ (32 * i) = P at *
  generalize nv vs = V at *
  generalize (L + P * nx + P * 4294967296 * hi) / V = q at *
  have h1 : q * (P * tp) ≤ q * V := Int.mul_le_mul_of_nonneg_left v1 q0
  have h2 : P * (q * tp) < P * (hi * 4294967296 + nx + 1) := by
    have e1 : q * (P * tp) = P * (q * tp) := by rw [← Int.mul_assoc, Int.mul_comm q P, Int.mul_assoc]
    have e2 : P * (hi * 4294967296 + nx + 1) = P * 4294967296 * hi + P * nx + P := by rw [Int.mul_add, Int.mul_add, Int.mul_one, Int.mul_comm hi, ← Int.mul_assoc]
    omega
  have := Int.lt_of_mul_lt_mul_left h2 (Int.le_of_lt pp)
  omega

/-- The guess so far; the borrow tells whether it is too great. -/
structure StepTo (vs zs us : List Int) (off m : Nat) (G bo : Int) : Prop where
  mv : Moved zs us off m (-(nv vs * G)) (-1 * bo)
  ge : (nv zs / 2 ^ (32 * off)) / nv vs ≤ G
  hi : G < 4294967296
  b0 : 0 ≤ bo
  b1 : bo ≤ 1
theorem StepTo.more {vs zs us : List Int} {off m : Nat} {G : Int} (h : StepTo vs zs us off m G 1) (hs : StepIn vs zs off m) : 1 ≤ G ∧ (nv zs / 2 ^ (32 * off)) / nv vs ≤ G - 1 := by
  obtain ⟨v1, v2, v3⟩ := hs.vpos
  obtain ⟨h1, h2, h3, h4, h5⟩ := h
  have p := pow_pos' (32 * off)
  have e := h1.eq
  have ht : tlen us ≤ off + m + 1 := by
    rcases Nat.lt_or_ge (off + m + 1) (tlen us) with hh | hh
    · exfalso
      have t1 := tlen_top us (by omega)
      rw [h1.same _ (by omega), hs.high _ (by omega)] at t1
      exact t1 rfl
    · exact hh
  have l1 := tlen_lt us h1.all
  have l2 := pow_mono (32 * tlen us) (32 * (off + m + 1)) (by omega)
  have hz0 := nv_nonneg zs hs.hz
  have hR := Int.mul_ediv_add_emod (nv zs) (2 ^ (32 * off))
  have hL0 := Int.emod_nonneg (nv zs) (Int.ne_of_gt p)
  have hR0 : 0 ≤ nv zs / 2 ^ (32 * off) := Int.ediv_nonneg hz0 (Int.le_of_lt p)
  generalize nv zs / 2 ^ (32 * off) = R at *
  generalize nv zs % 2 ^ (32 * off) = L at *
  have hneg : R - nv vs * G < 0 := by
    rcases Int.lt_or_le (R - nv vs * G) 0 with hh | hh
    · exact hh
    · exfalso
      have := Int.mul_nonneg (Int.le_of_lt p) hh
      rw [Int.mul_sub] at this
      rw [Int.mul_neg] at e
      omega
  have hq : R / nv vs < G := by
    rw [Int.ediv_lt_iff_lt_mul v3, Int.mul_comm]
    omega
  have hq0 := Int.ediv_nonneg hR0 (Int.le_of_lt v3)
  exact ⟨by omega, by omega⟩
theorem StepTo.next {vs zs us us' : List Int} {off m : Nat} {G c : Int} (h : StepTo vs zs us off m G 1) (hs : StepIn vs zs off m) (hm : Moved us us' off m (nv vs) (1 * c)) (c0 : 0 ≤ c) (c1 : c ≤ 1) : StepTo vs zs us' off m (G - 1) (1 - c) := by
  obtain ⟨m1, m2⟩ := h.more hs
  obtain ⟨⟨a1, a2, a3, a4⟩, h2, h3, h4, h5⟩ := h
  obtain ⟨b1, b2, b3, b4⟩ := hm
  refine ⟨⟨by rw [b1, a1], b2, ?_, fun j hj => by rw [b4 j hj, a4 j hj]⟩, m2, by omega, by omega, by omega⟩
  rw [show -1 * (1 - c) = c - 1 by omega, Int.mul_sub (nv vs), Int.mul_one, Int.neg_sub, Int.mul_sub, Int.mul_sub, Int.mul_one]
  rw [show (-1 : Int) * 1 = -1 by decide, Int.mul_neg, Int.mul_neg, Int.mul_one] at a3
  rw [Int.one_mul] at b3
  omega
theorem StepTo.done {vs zs us : List Int} {off m : Nat} {G : Int} (h : StepTo vs zs us off m G 0) (hs : StepIn vs zs off m) : 0 ≤ G ∧ nv zs = nv us + 2 ^ (32 * off) * (nv vs * G) ∧ nv us < nv vs * 2 ^ (32 * off) := by
  obtain ⟨v1, v2, v3⟩ := hs.vpos
  obtain ⟨h1, h2, h3, h4, h5⟩ := h
  have p := pow_pos' (32 * off)
  have e := h1.eq
  have hz0 := nv_nonneg zs hs.hz
  have hR := Int.mul_ediv_add_emod (nv zs) (2 ^ (32 * off))
  have hL0 := Int.emod_nonneg (nv zs) (Int.ne_of_gt p)
  have hL1 := Int.emod_lt_of_pos (nv zs) p
  have hR0 : 0 ≤ nv zs / 2 ^ (32 * off) := Int.ediv_nonneg hz0 (Int.le_of_lt p)
  have hq0 := Int.ediv_nonneg hR0 (Int.le_of_lt v3)
  have hq1 := Int.lt_ediv_add_one_mul_self (nv zs / 2 ^ (32 * off)) v3
  have e2 : nv zs = nv us + 2 ^ (32 * off) * (nv vs * G) := by
    rw [Int.mul_neg, Int.mul_zero, Int.mul_zero] at e
    omega
  refine ⟨by omega, e2, ?_⟩
  generalize nv zs / 2 ^ (32 * off) = R at *
  generalize nv zs % 2 ^ (32 * off) = L at *
  have h6 : R < nv vs * G + nv vs := by
    have : (R / nv vs + 1) * nv vs ≤ (G + 1) * nv vs := Int.mul_le_mul_of_nonneg_right (by omega) (Int.le_of_lt v3)
    have e5 : (G + 1) * nv vs = nv vs * G + nv vs := by rw [Int.add_mul, Int.one_mul, Int.mul_comm]
    omega
  have h7 : 2 ^ (32 * off) * (R + 1) ≤ 2 ^ (32 * off) * (nv vs * G + nv vs) := Int.mul_le_mul_of_nonneg_left (by omega) (Int.le_of_lt p)
  rw [Int.mul_add, Int.mul_add, Int.mul_one, Int.mul_comm _ (nv vs)] at h7
  omega

/-- What divStep hands back. -/
def IsStep (vs zs : List Int) (off : Nat) (g : Nat) (w : World) (e : Ending) (w' : World) : Prop :=
  ∃ (us : List Int) (q : Int), W32 q ∧ us.length = zs.length ∧ AllW us ∧ nv zs = nv us + 2 ^ (32 * off) * (nv vs * q) ∧ nv us < nv vs * 2 ^ (32 * off) ∧ e = .returned (.int .u32 q) ∧ Blk w' g 113 (wordArr us) ∧ Only g w w'

end Go.Proofs.Ytmeobamfjcjbhaa
