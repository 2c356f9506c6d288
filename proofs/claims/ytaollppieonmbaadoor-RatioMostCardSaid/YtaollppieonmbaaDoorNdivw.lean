/-
  Contracts of nat's divWord, subProduct and addBack. Conditions: at most 2^20 words, each of 32 bits; the divisor is not nought.
-/
import Derived.Test.YtaollppieonmbaaDoorNshr
namespace Go.Proofs.YtaollppieonmbaaDoor
open Go.RowKit
set_option maxRecDepth 100000

/-- The quotient's words from K on are found; r is what is left of the dividend's words from K on. -/
structure DivW (us zs : List Int) (n K : Nat) (b r : Int) : Prop where
  len : zs.length = n
  all : AllW zs
  eq : nv zs * b + 2 ^ (32 * K) * r + nv (us.take K) = nv us
  low : ∀ j, j < K → zs.getD j 0 = 0
  r0 : 0 ≤ r
  r1 : r < b
theorem DivW.next {us zs : List Int} {n i : Nat} {b r x q r' : Int} (h : DivW us zs n (i + 1) b r) (hi : i < n) (ex : us.getD i 0 = x) (hq : W32 q) (hr : 0 ≤ r') (hr' : r' < b) (e : q * b + r' = r * 4294967296 + x) : DivW us (zs.set i q) n i b r' := by
  obtain ⟨h1, h2, h3, h4, h5, h6⟩ := h
  refine ⟨by rw [List.length_set, h1], h2.set _ hq, ?_, fun j hj => ?_, hr, hr'⟩
  · rw [nv_set _ _ _ (by omega), h4 i (by omega), Int.sub_zero, Int.add_mul]
    rw [nv_take_succ, ex, pow32] at h3
    have e2 : 2 ^ (32 * i) * (q * b + r') = 2 ^ (32 * i) * (r * 4294967296 + x) := by rw [e]
    rw [Int.mul_add, Int.mul_add, ← Int.mul_assoc, Int.mul_comm r, ← Int.mul_assoc] at e2
    omega
  · rw [getD_set_ne _ _ _ _ (by omega)]
    exact h4 j (by omega)

/-- The address leads to a block of words. -/
def TB (w : World) (A : Option Addr) : Prop := ∀ a, A = some a → ∃ cs, Blk w a.block 80 cs
/-- What divWord hands back. -/
def RetDivW (v b : Int) (w : World) (e : Ending) (w' : World) : Prop :=
  ∃ (ws : List Int) (A : Option Addr) (n c : Nat) (q r : Int), IsNat q ws ∧ q * b + r = v ∧ 0 ≤ r ∧ r < b ∧ ws.length = n ∧ e = .returned (.tuple #[.slice A n c, .int .u32 r]) ∧ n ≤ c ∧ Rn w' A ws ∧ (∀ a, A = some a → w.heap.size ≤ a.block) ∧ TB w' A ∧ Below w.heap.size w w'

set_option maxHeartbeats 3200000 in
theorem ndivWord_any (A : Option Addr) (n c : Nat) (us : List Int) (b : Int) (w : World) (hn : us.length = n) (hx : Rn w A us) (hu : AllW us) (ln : n ≤ 1048577) (hb : W32 b) (hb0 : b ≠ 0) :
    Calls Tryd.prog 73 #[.slice A n c, .int .u32 b] w (RetDivW (nv us) b w) := by
  have HN := Lib.hid hn
  obtain ⟨va, hva⟩ : ∃ va, nv us = va := ⟨_, rfl⟩
  rw [hva]
  have HVA := Lib.hid hva
  obtain ⟨r0, hr0⟩ : ∃ r0, r0 = List.replicate n (0 : Int) := ⟨_, rfl⟩
  have hmk := run_make_nat (n : Int) n rfl (by omega) r0 hr0
  have HR0 := Lib.hid hr0
  have hb1 : 0 < b := by have := hb.1; omega
  clear hn hva hr0 hb0
  go_enter Tryd.func73, Tryd.ntmps73
  go_wp2_with fail
  clear hmk
  go_loopw [7, 15] (fun s7 s15 wr => ∃ (k K : Nat) (zs : List Int) (r : Int), s7 = .int .u32 r ∧ s15 = .int .i64 (k : Int) ∧ k + K = n ∧ DivW us zs n K b r ∧ Blk wr w.heap.size 80 (wordArr zs) ∧ Hid (Below w.heap.size w wr)) (fun _ s15 _ => n - (intOf s15).toNat)
  case atStart =>
    refine ⟨0, n, r0, 0, rfl, rfl, by omega, ⟨by rw [HR0.out]; simp, by rw [HR0.out]; exact AllW.zeros _, ?_, fun j _ => by rw [HR0.out, List.getD_eq_getElem?_getD, List.getElem?_replicate]; split <;> rfl, Int.le_refl _, hb1⟩, Blk.new _ _ _, bel_alloc (Below.refl _ _) _⟩
    rw [HR0.out, nv_zeros, List.take_of_length_le (by rw [HN.out]; exact Nat.le_refl _)]
    simp
  case round =>
    obtain ⟨k, K, zs, r, rfl, rfl, hkK, T, BZ, HB⟩ := hrel
    by_cases h0 : K = 0
    · subst h0
      have FIN : Hid (nv zs * b + r = va) := by
        show _ = _
        have := T.eq
        rw [HVA.out] at this
        simpa [nv] using this
      have hkn : n ≤ k := by omega
      have r0' := T.r0
      have r1' := T.r1
      have ha := T.all
      have HL := Lib.hid T.len
      clear T hkK
      go_wp2_with fail
      refine (trim_any (some ⟨w.heap.size, 0, none⟩) n n zs wr HL.out (Nat.le_refl _) BZ.words (by omega)).mono ?_
      rintro e w1 ⟨ts, A', m', c', T, rfl, hmc, hra, hfr, rfl⟩
      have fin2 := T.nat ha
      go_wp2_with fail
      go_ret2
      exact ⟨ts, A', m', c', _, r, fin2, FIN.out, r0', r1', T.len, rfl, hmc, hra, fun a h => by injection hfr a h with h; rw [← h]; exact Nat.le_refl _, fun a h => by injection hfr a h with h; rw [← h]; exact ⟨_, BZ⟩, HB.out⟩
    · obtain ⟨i, rfl⟩ : ∃ i, K = i + 1 := ⟨K - 1, by omega⟩
      have hxr := hx.below HB.out (Nat.le_refl _)
      obtain ⟨g, off, rfl, hg, hcell⟩ := hxr.at_ (i := i) (by rw [HN.out]; omega)
      have wx := hu.getD i
      have TN : Hid (∀ q r', W32 q → 0 ≤ r' → r' < b → q * b + r' = r * 4294967296 + us.getD i 0 → DivW us (zs.set i q) n i b r') := fun q r' h1 h2 h3 h4 => T.next (by omega) rfl h1 h2 h3 h4
      have hl := Lib.hid T.len
      have wr' : W32 r := ⟨T.r0, by have := T.r1; have := hb.2; omega⟩
      have r1' := T.r1
      generalize us.getD i 0 = x at *
      have e1 : (n : Int) - 1 - (k : Int) = (i : Int) := by omega
      have hl1 : (k : Int) < (n : Int) := by omega
      have hl2 : (i : Int) < (n : Int) := by omega
      have hk2 : k + 1 + i = n := by omega
      have HK2 := Lib.hid hk2
      clear T h0 hkK hk2
      go_wp2_with fail
      refine (div32 r x b wr' wx hb r1' _).mono ?_
      rintro e w1 ⟨q, r2, wq, wr2, hr2, heq, rfl, hb2⟩
      have TN2 := TN.out q r2 wq wr2.1 hr2 heq
      have BZ1 := BZ.below hb2 BZ.lt
      have HB1 := Lib.hid (bel_trans HB.out hb2)
      have q0 := BZ1.word (i := i) (by rw [hl.out]; omega)
      have q1 := BZ1.frozen i
      have BZ2 := BZ1.set_ i (.int .u32 q)
      rw [wordArr_set] at BZ2
      have HB2 : Hid (Below w.heap.size w (w1.setCell ⟨w.heap.size, i, none⟩ (.int .u32 q))) := bel_set HB1.out (Nat.le_refl _) _
      clear heq TN hb2 BZ BZ1 HB HB1 hxr hcell
      go_wp2_with fail
      go_roundw
      case rel => exact ⟨k + 1, i, _, r2, rfl, by go_num, HK2.out, TN2, BZ2, HB2⟩
      case measure => simp [intOf]; omega

/-- So many words' products have been taken away, from a place on; the carry, and the borrow. -/
structure SubPr (vs zs zs' : List Int) (x : Int) (off k : Nat) (cr bo : Int) : Prop where
  len : zs'.length = zs.length
  all : AllW zs'
  eq : nv zs' - 2 ^ (32 * (off + k)) * (cr + bo) = nv zs - 2 ^ (32 * off) * (nv (vs.take k) * x)
  same : ∀ j, j < off ∨ off + k ≤ j → zs'.getD j 0 = zs.getD j 0
  car : W32 cr
  b0 : 0 ≤ bo
  b1 : bo ≤ 1
theorem SubPr.next {vs zs zs' : List Int} {x y z : Int} {off k : Nat} {cr bo : Int} (h : SubPr vs zs zs' x off k cr bo) (hk : off + k < zs.length) (hx : W32 x) (hy : W32 y) (hz : W32 z) (ey : vs.getD k 0 = y) (ez : zs'.getD (off + k) 0 = z) :
    SubPr vs zs (zs'.set (off + k) (low32 (z - (low32 (y * x + cr) + bo)))) x off (k + 1) (car32 (y * x + cr)) (bor32 z (low32 (y * x + cr) + bo)) := by
  obtain ⟨h1, h2, h3, h4, h5, h6, h7⟩ := h
  have pb := prod_bd hx hy
  refine ⟨by rw [List.length_set, h1], h2.set _ (w32_low _), ?_, fun j hj => ?_, ?_, bor32_ge _ _, bor32_le _ _⟩
  · rw [nv_set _ _ _ (by rw [h1]; exact hk), nv_take_succ, ey, ez, ← Nat.add_assoc, pow32]
    have wl := w32_low (y * x + cr)
    have e1 := car_low (y * x + cr)
    have e0 := bor32_low hz (y := low32 (y * x + cr) + bo) (by have := wl.1; omega) (by have := wl.2; omega)
    generalize low32 (z - (low32 (y * x + cr) + bo)) = l at *
    generalize bor32 z (low32 (y * x + cr) + bo) = b' at *
    generalize low32 (y * x + cr) = t at *
    generalize car32 (y * x + cr) = c' at *
    have e2 : (-(c' + b')) * 4294967296 + l = z - bo - (y * x + cr) := by omega
    have e3 := mul_car (2 ^ (32 * (off + k))) e2
    have e4 : (2 : Int) ^ (32 * (off + k)) * (y * x) = 2 ^ (32 * off) * (2 ^ (32 * k) * y * x) := by rw [pow_off, Int.mul_assoc, Int.mul_assoc]
    rw [Int.mul_sub, Int.mul_sub, Int.mul_add, Int.mul_neg, e4] at e3
    rw [Int.mul_add] at h3
    rw [Int.mul_sub, Int.add_mul, Int.mul_add (2 ^ (32 * off))]
    omega
  · rw [getD_set_ne _ _ _ _ (by omega)]
    exact h4 j (by omega)
  · obtain ⟨_, _⟩ := hz
    obtain ⟨_, _⟩ := h5
    constructor <;> unfold car32 <;> omega
/-- The last word. -/
theorem SubPr.last {vs zs zs' : List Int} {x z : Int} {off m : Nat} {cr bo : Int} (h : SubPr vs zs zs' x off m cr bo) (hm : vs.length = m) (hk : off + m < zs.length) (hz : W32 z) (ez : zs'.getD (off + m) 0 = z) :
    nv (zs'.set (off + m) (low32 (z - (cr + bo)))) - 2 ^ (32 * (off + m + 1)) * bor32 z (cr + bo) = nv zs - 2 ^ (32 * off) * (nv vs * x) := by
  obtain ⟨h1, h2, h3, h4, h5, h6, h7⟩ := h
  rw [nv_set _ _ _ (by rw [h1]; exact hk), ez, pow32]
  have e0 := bor32_low hz (y := cr + bo) (by have := h5.1; omega) (by have := h5.2; omega)
  generalize low32 (z - (cr + bo)) = l at *
  generalize bor32 z (cr + bo) = b' at *
  have e2 : (-b') * 4294967296 + l = z - (cr + bo) := by omega
  have e3 := mul_car (2 ^ (32 * (off + m))) e2
  rw [List.take_of_length_le (by omega)] at h3
  rw [Int.mul_sub, Int.mul_neg] at e3
  rw [Int.mul_sub]
  omega

/-- What subProduct and addBack hand back: d is what was added at the place off; the words outside off .. off + m are as they were. -/
structure Moved (zs zs' : List Int) (off m : Nat) (d bo : Int) : Prop where
  len : zs'.length = zs.length
  all : AllW zs'
  eq : nv zs' + 2 ^ (32 * (off + m + 1)) * bo = nv zs + 2 ^ (32 * off) * d
  same : ∀ j, j < off ∨ off + m + 1 ≤ j → zs'.getD j 0 = zs.getD j 0
def IsMoved (zs : List Int) (off m : Nat) (d : Int) (sg : Int) (g : Nat) (w : World) (e : Ending) (w' : World) : Prop :=
  ∃ (zs' : List Int) (bo : Int), Moved zs zs' off m d (sg * bo) ∧ 0 ≤ bo ∧ bo ≤ 1 ∧ e = .returned (.int .u32 bo) ∧ Blk w' g 80 (wordArr zs') ∧ Only g w w'

set_option maxHeartbeats 3200000 in
theorem subProduct_any (B : Option Addr) (g off ca m d : Nat) (vs zs : List Int) (x : Int) (w : World) (hm : vs.length = m) (hoff : off + m < zs.length) (hy : Rn w B vs) (hB : vs ≠ [] → ∀ a, B = some a → a.block ≠ g) (hv : AllW vs) (hz : AllW zs) (hx : W32 x) (BZ : Blk w g 80 (wordArr zs)) (lm : m ≤ 1048577) :
    Calls Tryd.prog 89 #[.slice (some ⟨g, off, none⟩) (m + 1) ca, .slice B m d, .int .u32 x] w (IsMoved zs off m (-(nv vs * x)) (-1) g w) := by
  have HM := Lib.hid hm
  have HBB := Lib.hid hB
  obtain ⟨x0, x1⟩ := id hx
  clear hm hB
  go_enter Tryd.func89, Tryd.ntmps89
  go_wp2_with fail
  go_loopw [7, 8, 13] (fun s7 s8 s13 wr => ∃ (k : Nat) (us : List Int) (cr bo : Int), s7 = .int .u64 cr ∧ s8 = .int .u32 bo ∧ s13 = .int .i64 (k : Int) ∧ k ≤ m ∧ SubPr vs zs us x off k cr bo ∧ Blk wr g 80 (wordArr us) ∧ Hid (Only g w wr)) (fun _ _ s13 _ => m - (intOf s13).toNat)
  case atStart => exact ⟨0, zs, 0, 0, rfl, rfl, rfl, Nat.zero_le _, ⟨rfl, hz, by simp [nv], fun _ _ => rfl, ⟨by decide, by decide⟩, by decide, by decide⟩, BZ, Only.refl _ _⟩
  case round =>
    clear BZ
    obtain ⟨k, us, cr, bo, rfl, rfl, rfl, hk, T, BZ, HO⟩ := hrel
    have cw := T.car
    have b0 := T.b0
    have b1 := T.b1
    by_cases hlt : k < m
    · have hyr := hy.only HO.out HBB.out
      obtain ⟨g2, off2, rfl, hg2, hc2⟩ := hyr.at_ (i := k) (by rw [HM.out]; exact hlt)
      have wy := hv.getD k
      have wz := T.all.getD (off + k)
      have TN := Lib.hid (T.next (by omega) hx wy wz rfl rfl)
      have q0 := BZ.word (i := off + k) (by rw [T.len]; omega)
      have q1 := BZ.frozen (off + k)
      generalize vs.getD k 0 = y at *
      generalize us.getD (off + k) 0 = z at *
      obtain ⟨pb0, pb1⟩ := prod_bd hx wy
      obtain ⟨y0, y1⟩ := wy
      obtain ⟨c0, c1⟩ := cw
      have hl1 : (k : Int) < (m : Int) := by omega
      have hl2 : (k : Int) < (m : Int) + 1 := by omega
      have s0 : 0 ≤ y * x + cr := by omega
      have s1 : y * x + cr ≤ 18446744073709551615 := by omega
      have wl := w32_low (y * x + cr)
      have e1 : (y * x + cr) % 4294967296 = low32 (y * x + cr) := rfl
      have e2 : (y * x + cr) / 4294967296 = car32 (y * x + cr) := rfl
      have C := Lib.hid (fun w => sub32 z (low32 (y * x + cr)) bo wz wl b0 b1 w)
      have BZ2 := BZ.set_ (off + k) (.int .u32 (low32 (z - (low32 (y * x + cr) + bo))))
      rw [wordArr_set] at BZ2
      have HO2 : Hid (Only g w (wr.setCell ⟨g, off + k, none⟩ (.int .u32 (low32 (z - (low32 (y * x + cr) + bo)))))) := HO.out.set_ _ _
      generalize low32 (z - (low32 (y * x + cr) + bo)) = l at *
      generalize bor32 z (low32 (y * x + cr) + bo) = b' at *
      generalize low32 (y * x + cr) = t at *
      generalize car32 (y * x + cr) = c' at *
      clear T BZ HO hyr
      go_wp2_with fail
      refine (C.out _).mono ?_
      rintro e w1 ⟨rfl, rfl⟩
      clear C
      go_wp2_with fail
      go_roundw
      case rel => exact ⟨k + 1, _, c', b', rfl, rfl, by go_num, by omega, TN.out, BZ2, HO2⟩
      case measure => simp [intOf]; omega
    · have ek : k = m := by omega
      subst ek
      have wz := T.all.getD (off + k)
      have TL := Lib.hid (T.last HM.out hoff wz rfl)
      have q0 := BZ.word (i := off + k) (by rw [T.len]; omega)
      have q1 := BZ.frozen (off + k)
      have hl := Lib.hid T.len
      have hall := T.all
      have hsame := Lib.hid T.same
      generalize us.getD (off + k) 0 = z at *
      have C := Lib.hid (fun w => sub32 z cr bo wz cw b0 b1 w)
      have BZ2 := BZ.set_ (off + k) (.int .u32 (low32 (z - (cr + bo))))
      rw [wordArr_set] at BZ2
      have HO2 : Hid (Only g w (wr.setCell ⟨g, off + k, none⟩ (.int .u32 (low32 (z - (cr + bo)))))) := HO.out.set_ _ _
      have FIN : Hid (Moved zs (us.set (off + k) (low32 (z - (cr + bo)))) off k (-(nv vs * x)) (-1 * bor32 z (cr + bo))) := by
        refine ⟨by rw [List.length_set]; exact hl.out, hall.set _ (w32_low _), ?_, fun j hj => ?_⟩
        · have := TL.out
          rw [Int.mul_neg, Int.neg_one_mul, Int.mul_neg]
          omega
        · rw [getD_set_ne _ _ _ _ (by omega)]
          exact hsame.out j (by omega)
      have bb0 := bor32_ge z (cr + bo)
      have bb1 := bor32_le z (cr + bo)
      generalize low32 (z - (cr + bo)) = l at *
      generalize bor32 z (cr + bo) = b' at *
      obtain ⟨c0, c1⟩ := cw
      clear T BZ HO TL hsame hl
      go_wp2_with fail
      refine (C.out _).mono ?_
      rintro e w1 ⟨rfl, rfl⟩
      clear C
      go_wp2_with fail
      go_ret
      exact ⟨_, b', FIN.out, bb0, bb1, rfl, BZ2, HO2.out⟩
end Go.Proofs.YtaollppieonmbaaDoor
