/-
  Contracts of nat's Add and Sub: the sum; the difference, or false. Conditions: at most 2^20 words, each of 32 bits.
-/
import Derived.Test.YtaollppieonmbaaDoorNcmp
namespace Go.Proofs.YtaollppieonmbaaDoor
open Go.RowKit

theorem take_set (zs : List Int) (k : Nat) (x : Int) : (zs.set k x).take k = zs.take k := by
  rw [List.take_set, List.set_eq_of_length_le]
  rw [List.length_take]
  omega
theorem getD_set (zs : List Int) (k : Nat) (x : Int) (h : k < zs.length) : (zs.set k x).getD k 0 = x := by
  rw [List.getD_eq_getElem?_getD, List.getElem?_set_self h]
  rfl
theorem getD_set_ne (zs : List Int) (k j : Nat) (x : Int) (h : k ≠ j) : (zs.set k x).getD j 0 = zs.getD j 0 := by
  rw [List.getD_eq_getElem?_getD, List.getElem?_set_ne h, ← List.getD_eq_getElem?_getD]

theorem mul_car (P : Int) {c l s : Int} (e : c * 4294967296 + l = s) : P * 4294967296 * c + P * l = P * s := by rw [← e, Int.mul_add, Int.mul_assoc, Int.mul_comm 4294967296 c]

/-- So far so many words of the sum, and the carry. -/
structure NAdd (us vs zs : List Int) (n k : Nat) (c : Int) : Prop where
  len : zs.length = n
  all : AllW zs
  eq : nv (zs.take k) + 2 ^ (32 * k) * c = nv (us.take k) + nv (vs.take k)
  c0 : 0 ≤ c
  c1 : c ≤ 1
theorem NAdd.next {us vs zs : List Int} {n k : Nat} {c x y : Int} (h : NAdd us vs zs n k c) (hk : k < n) (hx : W32 x) (hy : W32 y) (ex : us.getD k 0 = x) (ey : vs.getD k 0 = y) : NAdd us vs (zs.set k (low32 (x + y + c))) n (k + 1) (car32 (x + y + c)) := by
  obtain ⟨h1, h2, h3, h4, h5⟩ := h
  refine ⟨by rw [List.length_set, h1], h2.set k (w32_low _), ?_, car_ge hx hy h4, car_le hx hy h5⟩
  rw [nv_take_succ, nv_take_succ, nv_take_succ, take_set, getD_set _ _ _ (by omega), ex, ey, pow32]
  have e := car_low (x + y + c)
  generalize car32 (x + y + c) = c' at *
  generalize low32 (x + y + c) = l at *
  generalize (2 : Int) ^ (32 * k) = P at *
  have e2 := mul_car P e
  rw [Int.mul_add, Int.mul_add] at e2
  omega
theorem NAdd.done {us vs zs : List Int} {n : Nat} {c : Int} (h : NAdd us vs zs n n c) (hu : AllW us) (hv : AllW vs) (h1 : us.length < n) (h2 : vs.length < n) : nv zs = nv us + nv vs := by
  have e := h.eq
  rw [List.take_of_length_le (by rw [h.len]; exact Nat.le_refl _), List.take_of_length_le (by omega), List.take_of_length_le (by omega)] at e
  have l1 := nv_lt us hu
  have l2 := nv_lt vs hv
  have l3 := pow_mono (32 * us.length) (32 * (n - 1)) (by omega)
  have l4 := pow_mono (32 * vs.length) (32 * (n - 1)) (by omega)
  have l5 := pow32 (n - 1)
  rw [show n - 1 + 1 = n by omega] at l5
  have l6 := nv_nonneg zs h.all
  have l7 := pow_pos' (32 * (n - 1))
  have c0 := h.c0; have c1 := h.c1
  have hc : c = 0 := by
    rcases Int.lt_or_le 0 c with h3 | h3
    · have : c = 1 := by omega
      subst this
      omega
    · omega
  subst hc
  omega

set_option maxHeartbeats 1600000 in
theorem nadd_any (A B : Option Addr) (n m c d : Nat) (us vs : List Int) (w : World) (hn : us.length = n) (hm : vs.length = m) (hx : Rn w A us) (hy : Rn w B vs) (hu : AllW us) (hv : AllW vs) (ln : n ≤ 1048576) (lm : m ≤ 1048576) :
    Calls Tryd.prog 64 #[.slice A n c, .slice B m d] w (RetN (nv us + nv vs) w) := by
  have HN := Lib.hid hn
  have HM := Lib.hid hm
  clear hn hm
  obtain ⟨N, hN⟩ : ∃ N, max n m + 1 = N := ⟨_, rfl⟩
  obtain ⟨r0, hr0⟩ : ∃ r0, r0 = List.replicate N (0 : Int) := ⟨_, rfl⟩
  have hmk := run_make_nat (max (n : Int) (m : Int) + 1) N (by omega) (by omega) r0 hr0
  have HR0 := Lib.hid hr0
  have hN1 : n < N := by omega
  have hN2 : m < N := by omega
  have hN3 : N ≤ 1048577 := by omega
  clear hr0 hN
  go_enter Tryd.func64, Tryd.ntmps64
  go_wp2_with fail
  clear hmk
  go_loopw [6, 17] (fun s6 s17 wr => ∃ (k : Nat) (zs : List Int) (cr : Int), s6 = .int .u32 cr ∧ s17 = .int .i64 (k : Int) ∧ k ≤ N ∧ NAdd us vs zs N k cr ∧ Blk wr w.heap.size 80 (wordArr zs) ∧ Hid (Below w.heap.size w wr)) (fun _ s17 _ => N - (intOf s17).toNat)
  case atStart => exact ⟨0, r0, 0, rfl, rfl, Nat.zero_le _, ⟨by rw [HR0.out]; simp, by rw [HR0.out]; exact AllW.zeros _, by simp [nv], by decide, by decide⟩, Blk.new _ _ _, bel_alloc (Below.refl _ _) _⟩
  case round =>
    obtain ⟨k, zs, cr, rfl, rfl, hk, T, BZ, HB⟩ := hrel
    by_cases hlt : k < N
    · have hxr := hx.below HB.out (Nat.le_refl _)
      have hyr := hy.below HB.out (Nat.le_refl _)
      have wx := hu.getD k
      have wy := hv.getD k
      have TN := Lib.hid (T.next hlt wx wy rfl rfl)
      have c0 := T.c0
      have c1 := T.c1
      have q0 := BZ.word (i := k) (by rw [T.len]; exact hlt)
      have q1 := BZ.frozen k
      have hl : (k : Int) < (N : Int) := by omega
      go_wp2_with fail
      refine (word_any A n c us k wr HN.out hxr (by omega) (by omega)).mono ?_
      rintro e w1 ⟨rfl, rfl⟩
      generalize us.getD k 0 = x at *
      go_wp2_with fail
      refine (word_any B m d vs k wr HM.out hyr (by omega) (by omega)).mono ?_
      rintro e w1 ⟨rfl, rfl⟩
      generalize vs.getD k 0 = y at *
      go_wp2_with fail
      refine (add32 x y cr wx wy c0 c1 _).mono ?_
      rintro e w1 ⟨rfl, rfl⟩
      have BZ2 := BZ.set_ k (.int .u32 (low32 (x + y + cr)))
      rw [wordArr_set] at BZ2
      have HB2 : Hid (Below w.heap.size w (wr.setCell ⟨w.heap.size, k, none⟩ (.int .u32 (low32 (x + y + cr))))) := bel_set HB.out (Nat.le_refl _) _
      clear T BZ HB hxr hyr
      generalize low32 (x + y + cr) = l at *
      generalize car32 (x + y + cr) = c' at *
      go_wp2_with fail
      go_roundw
      case rel => exact ⟨k + 1, _, c', rfl, by go_num, by omega, TN.out, BZ2, HB2⟩
      case measure => simp [intOf]; omega
    · have ek : k = N := by omega
      subst ek
      have fin := T.done hu hv (by rw [HN.out]; exact hN1) (by rw [HM.out]; exact hN2)
      have FIN := Lib.hid fin
      have hl := T.len
      have ha := T.all
      have HL := Lib.hid hl
      clear fin hl T
      go_wp2_with fail
      refine (trim_any (some ⟨w.heap.size, 0, none⟩) k k zs wr HL.out (Nat.le_refl _) BZ.words (by omega)).mono ?_
      rintro e w1 ⟨ts, A', m', c', T, rfl, hmc, hra, hfr, rfl⟩
      have fin2 : IsNat (nv us + nv vs) ts := by
        rw [← FIN.out]
        exact T.nat ha
      go_wp2_with fail
      go_ret
      exact ⟨ts, A', m', c', fin2, T.len, rfl, hmc, hra, fun a h => by injection hfr a h with h; rw [← h]; exact Nat.le_refl _, HB.out⟩

/-- So far so many words of the difference, and the borrow. -/
structure NSub (us vs zs : List Int) (n k : Nat) (c : Int) : Prop where
  len : zs.length = n
  all : AllW zs
  eq : nv (zs.take k) - 2 ^ (32 * k) * c = nv (us.take k) - nv (vs.take k)
  c0 : 0 ≤ c
  c1 : c ≤ 1
theorem NSub.next {us vs zs : List Int} {n k : Nat} {c x y : Int} (h : NSub us vs zs n k c) (hk : k < n) (hx : W32 x) (hy : W32 y) (ex : us.getD k 0 = x) (ey : vs.getD k 0 = y) : NSub us vs (zs.set k (low32 (x - (y + c)))) n (k + 1) (bor32 x (y + c)) := by
  obtain ⟨h1, h2, h3, h4, h5⟩ := h
  refine ⟨by rw [List.length_set, h1], h2.set k (w32_low _), ?_, bor32_ge _ _, bor32_le _ _⟩
  rw [nv_take_succ, nv_take_succ, nv_take_succ, take_set, getD_set _ _ _ (by omega), ex, ey, pow32]
  have e := bor32_low hx (y := y + c) (by have := hy.1; omega) (by have := hy.2; omega)
  have e' : (-bor32 x (y + c)) * 4294967296 + low32 (x - (y + c)) = x - (y + c) := by omega
  generalize bor32 x (y + c) = c' at *
  generalize low32 (x - (y + c)) = l at *
  generalize (2 : Int) ^ (32 * k) = P at *
  have e2 := mul_car P e'
  rw [Int.mul_sub, Int.mul_add, Int.mul_neg] at e2
  omega
theorem NSub.done {us vs zs : List Int} {n : Nat} {c : Int} (h : NSub us vs zs n n c) (hu : AllW us) (hv : AllW vs) (h1 : us.length = n) (hle : nv vs ≤ nv us) : nv zs = nv us - nv vs := by
  have e := h.eq
  have ht := nv_high (ws := vs) (k := min n vs.length) (Nat.min_le_right _ _)
  have e1 : nv (vs.take n) = nv vs := by
    rcases Nat.lt_or_ge vs.length n with h2 | h2
    · rw [List.take_of_length_le (by omega)]
    · have t := tlen_nv hv hu (by omega)
      have t2 := tlen_le us
      exact (nv_high h2 fun j hj => tlen_high vs j (by omega)).symm
  rw [List.take_of_length_le (by rw [h.len]; exact Nat.le_refl _), List.take_of_length_le (by omega), e1] at e
  have l6 := nv_lt zs h.all
  rw [h.len] at l6
  have c0 := h.c0; have c1 := h.c1
  have hc : c = 0 := by
    rcases Int.lt_or_le 0 c with h3 | h3
    · have : c = 1 := by omega
      subst this
      omega
    · omega
  subst hc
  omega

/-- What Sub hands back. -/
def RetSub (va vb : Int) (w : World) (e : Ending) (w' : World) : Prop :=
  ∃ (ws : List Int) (A : Option Addr) (n c : Nat) (ok : Bool), ok = decide (vb ≤ va) ∧ IsNat (if vb ≤ va then va - vb else 0) ws ∧ ws.length = n ∧ e = .returned (.tuple #[.slice A n c, .bool ok]) ∧ n ≤ c ∧ Rn w' A ws ∧ (∀ a, A = some a → w.heap.size ≤ a.block) ∧ Below w.heap.size w w'
theorem cmp_lt0 {a b : Int} (h : a < b) : decide (cmpI a b < 0) = true := by rw [cmpI_lt h]; rfl
theorem cmp_nlt0 {a b : Int} (h : b ≤ a) : decide (cmpI a b < 0) = false := by
  simp only [decide_eq_false_iff_not]
  unfold cmpI
  split <;> (try split) <;> omega

set_option maxHeartbeats 1600000 in
theorem nsub_any (A B : Option Addr) (n m c d : Nat) (us vs : List Int) (w : World) (hn : us.length = n) (hm : vs.length = m) (hc : n ≤ c) (hd : m ≤ d) (hx : Rn w A us) (hy : Rn w B vs) (hu : AllW us) (hv : AllW vs) (ln : n ≤ 1048577) (lm : m ≤ 1048577) :
    Calls Tryd.prog 65 #[.slice A n c, .slice B m d] w (RetSub (nv us) (nv vs) w) := by
  have HN := Lib.hid hn
  have HM := Lib.hid hm
  clear hn hm
  obtain ⟨r0, hr0⟩ : ∃ r0, r0 = List.replicate n (0 : Int) := ⟨_, rfl⟩
  have hmk := run_make_nat (n : Int) n rfl (by omega) r0 hr0
  have HR0 := Lib.hid hr0
  have HMK := Lib.hid hmk
  clear hr0 hmk
  go_enter Tryd.func65, Tryd.ntmps65
  go_wp2_with fail
  refine (ncmp_any A B n m c d us vs w HN.out HM.out hc hd hx hy hu hv ln lm).mono ?_
  rintro e w1 ⟨rfl, hb1⟩
  by_cases hlt : nv us < nv vs
  · have t := cmp_lt0 hlt
    have F1 : Hid (false = decide (nv vs ≤ nv us)) := by show _ = _; simp; omega
    have F2 : Hid (IsNat (if nv vs ≤ nv us then nv us - nv vs else 0) []) := by show IsNat _ _; rw [if_neg (by omega)]; exact IsNat.nil
    generalize cmpI (nv us) (nv vs) = cc at *
    go_wp2_with fail
    go_ret2
    exact ⟨[], none, 0, 0, false, F1.out, F2.out, rfl, rfl, Nat.le_refl _, .inl rfl, (fun a h => by cases h), hb1⟩
  · have hle : nv vs ≤ nv us := by omega
    have t := cmp_nlt0 hle
    have HLE := Lib.hid hle
    generalize cmpI (nv us) (nv vs) = cc at *
    clear hlt hle
    have hmk := HMK.out
    have hx1 := hx.below hb1 (Nat.le_refl _)
    have hy1 := hy.below hb1 (Nat.le_refl _)
    go_wp2_with fail
    clear hmk
    go_loopw [7, 18] (fun s7 s18 wr => ∃ (k : Nat) (zs : List Int) (cr : Int), s7 = .int .u32 cr ∧ s18 = .int .i64 (k : Int) ∧ k ≤ n ∧ NSub us vs zs n k cr ∧ Blk wr w1.heap.size 80 (wordArr zs) ∧ Hid (Below w1.heap.size w1 wr)) (fun _ s18 _ => n - (intOf s18).toNat)
    case atStart => exact ⟨0, r0, 0, rfl, rfl, Nat.zero_le _, ⟨by rw [HR0.out]; simp, by rw [HR0.out]; exact AllW.zeros _, by simp [nv], by decide, by decide⟩, Blk.new _ _ _, bel_alloc (Below.refl _ _) _⟩
    case round =>
      obtain ⟨k, zs, cr, rfl, rfl, hk, T, BZ, HB⟩ := hrel
      by_cases hlt : k < n
      · have hxr := hx1.below HB.out (Nat.le_refl _)
        have hyr := hy1.below HB.out (Nat.le_refl _)
        have wx := hu.getD k
        have wy := hv.getD k
        have TN := Lib.hid (T.next hlt wx wy rfl rfl)
        have c0 := T.c0
        have c1 := T.c1
        have q0 := BZ.word (i := k) (by rw [T.len]; exact hlt)
        have q1 := BZ.frozen k
        have hl : (k : Int) < (n : Int) := by omega
        obtain ⟨g, off, rfl, hg, hcell⟩ := hxr.at_ (i := k) (by rw [HN.out]; exact hlt)
        generalize us.getD k 0 = x at *
        generalize hyy : vs.getD k 0 = y at *
        have HYY := Lib.hid hyy
        clear hyy T hxr
        go_upto_region 8 with fail
        have q2 : wr.drew.cell? ⟨w1.heap.size, k, none⟩ = some (.int .u32 (zs.getD k 0)) := q0
        have q3 : wr.drew.frozen? ⟨w1.heap.size, k, none⟩ = false := q1
        have q4 : wr.drew.cell? ⟨g, off + k, none⟩ = some (.int .u32 x) := hcell
        have BZ2 := (BZ.set_ k (.int .u32 (low32 (x - (y + cr))))).drew
        rw [wordArr_set] at BZ2
        have HB2 : Hid (Below w1.heap.size w1 (wr.setCell ⟨w1.heap.size, k, none⟩ (.int .u32 (low32 (x - (y + cr))))).drew) := bel_drew (bel_set HB.out (Nat.le_refl _) _)
        have WC := Lib.hid (word_any B m d vs k wr.drew HM.out hyr.drew (by omega) (by omega))
        rw [HYY.out] at WC
        have SC := Lib.hid (fun w => sub32 x y cr wx wy c0 c1 w)
        clear q0 q1 BZ HB hcell hyr
        generalize low32 (x - (y + cr)) = l at *
        generalize bor32 x (y + cr) = c' at *
        go_region_with
          (first
            | (go_at_call 78; refine WC.out.mono ?_; rintro e w' ⟨rfl, rfl⟩)
            | (go_at_call 79; refine (SC.out _).mono ?_; rintro e w' ⟨rfl, rfl⟩))
        all_goals
          go_wp2_with fail
          go_roundw
          case rel => exact ⟨k + 1, _, c', rfl, by go_num, by omega, TN.out, BZ2, HB2⟩
          case measure => simp [intOf]; omega
      · have ek : k = n := by omega
        subst ek
        have fin := T.done hu hv HN.out HLE.out
        have F1 : Hid (true = decide (nv vs ≤ nv us)) := by show _ = _; simp; exact HLE.out
        have FIN : Hid (nv zs = if nv vs ≤ nv us then nv us - nv vs else 0) := by show _ = _; rw [if_pos HLE.out]; exact fin
        have HL := Lib.hid T.len
        have ha := T.all
        clear fin T
        go_wp2_with fail
        refine (trim_any (some ⟨w1.heap.size, 0, none⟩) k k zs wr HL.out (Nat.le_refl _) BZ.words (by omega)).mono ?_
        rintro e w2 ⟨ts, A', m', c', T, rfl, hmc, hra, hfr, rfl⟩
        have fin2 : Hid (IsNat (if nv vs ≤ nv us then nv us - nv vs else 0) ts) := by
          show IsNat _ _
          rw [← FIN.out]
          exact T.nat ha
        go_wp2_with fail
        go_ret2
        exact ⟨ts, A', m', c', true, F1.out, fin2.out, T.len, rfl, hmc, hra, fun a h => by injection hfr a h with h; rw [← h]; exact hb1.size, bel_trans hb1 HB.out⟩
end Go.Proofs.YtaollppieonmbaaDoor
