/-
  The contract of wide.divStep: one word of a quotient, and what is left. Conditions: the fields are words of 64 bits; the two highest words of the dividend are below the divisor.
-/
import Derived.Test.YtbpgallhlfjgjaaWorks
namespace Go.Proofs.Ytbpgallhlfjgjaa
open Go.RowKit

/-- A guess that is not too small: what is left, with the borrow. -/
structure Step (a b g r c : Int) : Prop where
  g0 : 0 ≤ g
  g1 : g < 18446744073709551616
  c0 : 0 ≤ c
  c1 : c ≤ 1
  eq : a - b * g = r - c * 6277101735386680763835789423207666416102355444464034512896
  big : a < (g + 1) * b

theorem step_first {ah am al bh bl q r : Int} (w2 : Word al) (w3 : Word bl) (hq : 0 ≤ q) (hr : r < bh) (e : q * bh + r = V2 ah am) : V3 ah am al < (q + 1) * V2 bh bl := by
  have e1 : V3 ah am al = V2 ah am * 18446744073709551616 + al := by unfold V3 V2; omega
  have e2 : (q + 1) * V2 bh bl = (q + 1) * bh * 18446744073709551616 + (q + 1) * bl := by unfold V2; rw [Int.mul_add, Int.mul_assoc]
  have h1 : V2 ah am + 1 ≤ (q + 1) * bh := by rw [Int.add_mul]; omega
  have h2 : 0 ≤ (q + 1) * bl := Int.mul_nonneg (by omega) w3.1
  have := w2.2
  rw [e1, e2]
  generalize (q + 1) * bh = x at *
  omega
theorem step_top {ah am al bh bl : Int} (w2 : Word al) (h : V2 ah am < V2 bh bl) : V3 ah am al < (18446744073709551615 + 1) * V2 bh bl := by
  have e1 : V3 ah am al = V2 ah am * 18446744073709551616 + al := by unfold V3 V2; omega
  have := w2.2
  rw [e1]
  omega
theorem Step.pos {a b g r c : Int} (h : Step a b g r c) (hc : ¬ c = 0) (ha : 0 ≤ a) (hr : r < 6277101735386680763835789423207666416102355444464034512896) : 1 ≤ g ∧ c = 1 := by
  obtain ⟨g0, g1, c0, c1, eq, big⟩ := h
  have c1' : c = 1 := by omega
  subst c1'
  refine ⟨?_, rfl⟩
  rcases Int.lt_or_le g 1 with h | h
  · exfalso
    have : g = 0 := by omega
    subst this
    omega
  · exact h
/-- One less. -/
theorem Step.next {a b g r r' d : Int} (h : Step a b g r 1) (hr : r < 6277101735386680763835789423207666416102355444464034512896) (ha : 0 ≤ a) (d0 : 0 ≤ d) (d1 : d ≤ 1) (e : r' + d * 6277101735386680763835789423207666416102355444464034512896 = r + b) : Step a b (g - 1) r' (1 - d) := by
  obtain ⟨hg1, _⟩ := h.pos (by decide) ha hr
  obtain ⟨g0, g1, c0, c1, eq, big⟩ := h
  have hg : a < g * b := by rw [Int.mul_comm]; omega
  refine ⟨by omega, by omega, by omega, by omega, ?_, by rw [show g - 1 + 1 = g by omega]; exact hg⟩
  rw [Int.mul_sub, Int.mul_one]
  omega
theorem Step.done {a b g r : Int} (h : Step a b g r 0) : g * b + r = a ∧ r < b := by
  obtain ⟨_, _, _, _, eq, big⟩ := h
  rw [Int.add_mul, Int.mul_comm g b] at big
  rw [Int.mul_comm g b]
  omega

theorem kp5c {W w1 : World} {p q r s x : Addr} {a b c d e : Value} (hb : Below W.heap.size W w1) (h : W.cell? p = some a ∧ W.cell? q = some b ∧ W.cell? r = some c ∧ W.cell? s = some d ∧ W.cell? x = some e) :
    w1.cell? p = some a ∧ w1.cell? q = some b ∧ w1.cell? r = some c ∧ w1.cell? s = some d ∧ w1.cell? x = some e :=
  ⟨(hb.cell (World.block_lt_of_cell? _ _ h.1)).trans h.1, (hb.cell (World.block_lt_of_cell? _ _ h.2.1)).trans h.2.1, (hb.cell (World.block_lt_of_cell? _ _ h.2.2.1)).trans h.2.2.1, (hb.cell (World.block_lt_of_cell? _ _ h.2.2.2.1)).trans h.2.2.2.1, (hb.cell (World.block_lt_of_cell? _ _ h.2.2.2.2)).trans h.2.2.2.2⟩
theorem Blk.madeD {w w' : World} {t : TypeId} {cs : Array Value} (hb : Below (w.alloc (.cells cs t)).drew.heap.size (w.alloc (.cells cs t)).drew w') : Blk w' w.heap.size t cs := (Blk.new w t cs).drew.below hb (Blk.new w t cs).drew.lt

theorem step_low {h m l bh bl : Int} (w1 : Word h) (w2 : Word m) (w3 : Word l) (w4 : Word bh) (w5 : Word bl) (hlt : V3 h m l < V2 bh bl) : h = 0 := by
  have := V2_lt w4 w5
  obtain ⟨_, _⟩ := w1; obtain ⟨_, _⟩ := w2; obtain ⟨_, _⟩ := w3
  unfold V3 at hlt
  omega

/-- A word of the quotient, and what is left. -/
def IsStep (a b : Int) (v : Value) : Prop := ∃ q h l : Int, Word q ∧ Word h ∧ Word l ∧ q * b + V2 h l = a ∧ V2 h l < b ∧ v = .tuple #[.int .u64 q, .agg #[.int .u64 h, .int .u64 l]]

set_option maxRecDepth 100000 in
set_option maxHeartbeats 6400000 in
theorem divStep (ah am al bh bl : Int) (h1 : Word ah) (h2 : Word am) (h3 : Word al) (h4 : Word bh) (h5 : Word bl) (hlt : V2 ah am < V2 bh bl) (w : World) :
    Calls Try.prog 56 #[.agg #[.int .u64 ah, .int .u64 am, .int .u64 al], .agg #[.int .u64 bh, .int .u64 bl]] w (Ret (IsStep (V3 ah am al) (V2 bh bl)) w) := by
  go_enter Try.func56, Try.ntmps56
  go_upto_if 15 with fail
  go_cut [6] (fun s6 wx => ∃ g : Int, s6 = .int .u64 g ∧ Word g ∧ V3 ah am al < (g + 1) * V2 bh bl ∧ Blk wx w.heap.size 45 #[.int .u64 ah, .int .u64 am, .int .u64 al] ∧ Blk wx (w.heap.size + 1) 24 #[.int .u64 bh, .int .u64 bl] ∧ Blk wx (w.heap.size + 1 + 1) 24 #[.int .u64 0, .int .u64 0] ∧ Hid (Below w.heap.size w wx))
  case first =>
    have K0 : Blk (((w.alloc (.cells #[.int .u64 ah, .int .u64 am, .int .u64 al] 45)).alloc (.cells #[.int .u64 bh, .int .u64 bl] 24)).alloc (.cells #[.int .u64 0, .int .u64 0] 24)) w.heap.size 45 #[.int .u64 ah, .int .u64 am, .int .u64 al] := ((Blk.new w _ _).alloc _).alloc _
    have K1 : Blk (((w.alloc (.cells #[.int .u64 ah, .int .u64 am, .int .u64 al] 45)).alloc (.cells #[.int .u64 bh, .int .u64 bl] 24)).alloc (.cells #[.int .u64 0, .int .u64 0] 24)) (w.heap.size + 1) 24 #[.int .u64 bh, .int .u64 bl] := by
      have := (Blk.new (w.alloc (.cells #[.int .u64 ah, .int .u64 am, .int .u64 al] 45)) 24 #[.int .u64 bh, .int .u64 bl]).alloc (.cells #[.int .u64 0, .int .u64 0] 24)
      simpa using this
    have K2 : Blk (((w.alloc (.cells #[.int .u64 ah, .int .u64 am, .int .u64 al] 45)).alloc (.cells #[.int .u64 bh, .int .u64 bl] 24)).alloc (.cells #[.int .u64 0, .int .u64 0] 24)) (w.heap.size + 1 + 1) 24 #[.int .u64 0, .int .u64 0] := by
      have := (Blk.new ((w.alloc (.cells #[.int .u64 ah, .int .u64 am, .int .u64 al] 45)).alloc (.cells #[.int .u64 bh, .int .u64 bl] 24)) 24 #[.int .u64 0, .int .u64 0])
      simpa using this
    by_cases hc : ah < bh
    · go_wp2_with fail
      refine (div64 ah am bh h1 h2 h4 hc _).mono ?_
      rintro e w1 ⟨q, r, wq, wr, hr, he, rfl, hb1⟩
      have big := step_first (al := al) (bl := bl) h3 h5 wq.1 hr he
      go_wp2_with fail
      go_meet
      exact ⟨q, rfl, wq, big, K0.below hb1 K0.lt, K1.below hb1 K1.lt, K2.below hb1 K2.lt, bel_trans (bel_alloc (bel_alloc (bel_alloc (Below.refl _ _) _) _) _) hb1⟩
    · go_wp2_with fail
      go_meet
      exact ⟨_, rfl, ⟨by decide, by decide⟩, step_top h3 hlt, K0, K1, K2, bel_alloc (bel_alloc (bel_alloc (Below.refl _ _) _) _) _⟩
  case rest =>
    obtain ⟨g, rfl, wg, big, K0, K1, K2, HB⟩ := hcut
    have a0 : wc.cell? ⟨w.heap.size, 0, none⟩ = some (.int .u64 ah) := K0.cell 0
    have a1 : wc.cell? ⟨w.heap.size, 1, none⟩ = some (.int .u64 am) := K0.cell 1
    have a2 : wc.cell? ⟨w.heap.size, 2, none⟩ = some (.int .u64 al) := K0.cell 2
    have b0 : wc.cell? ⟨w.heap.size + 1, 0, none⟩ = some (.int .u64 bh) := K1.cell 0
    have b1 : wc.cell? ⟨w.heap.size + 1, 1, none⟩ = some (.int .u64 bl) := K1.cell 1
    go_upto_region 4 with fail
    go_cut [7, 8] (fun s7 s8 wx => ∃ (p : Nat) (h m l c : Int), s7 = .pointer (some ⟨p, 0, none⟩) ∧ s8 = .int .u64 c ∧ w.heap.size + 1 + 1 < p ∧ Word h ∧ Word m ∧ Word l ∧ Step (V3 ah am al) (V2 bh bl) g (V3 h m l) c ∧ Blk wx p 45 #[.int .u64 h, .int .u64 m, .int .u64 l] ∧ Blk wx (w.heap.size + 1) 24 #[.int .u64 bh, .int .u64 bl] ∧ Blk wx (w.heap.size + 1 + 1) 24 #[.int .u64 0, .int .u64 0] ∧ Hid (Below w.heap.size w wx))
    case first =>
      go_region_held3 (fun w' => w'.cell? ⟨w.heap.size, 0, none⟩ = some (.int .u64 ah) ∧ w'.cell? ⟨w.heap.size, 1, none⟩ = some (.int .u64 am) ∧ w'.cell? ⟨w.heap.size, 2, none⟩ = some (.int .u64 al) ∧ w'.cell? ⟨w.heap.size + 1, 0, none⟩ = some (.int .u64 bh) ∧ w'.cell? ⟨w.heap.size + 1, 1, none⟩ = some (.int .u64 bl))
        ((refine kp5c (W := wc) ?_ ⟨a0, a1, a2, b0, b1⟩; repeat (first | exact Below.refl _ _ | exact X2 | exact X1 | refine bel_drew ?_ | refine bel_alloc ?_ _ | refine bel_set ?_ (by first | exact Nat.le_refl _ | exact X1.size) _)))
        (first
          | (go_at_call 27; refine (mul2 bh bl g h4 h5 wg _).mono ?_; rintro e w1 ⟨v, ⟨ph, pm, pl, wp1, wp2, wp3, hv, rfl⟩, rfl, hb1⟩; have HP := Lib.hid hv; clear hv; have X1 : Below wc.heap.size wc w1 := bel_trans (by repeat (first | exact Below.refl _ _ | refine bel_drew ?_ | refine bel_alloc ?_ _)) hb1; (first | have J1 := Blk.madeD hb1 | have J1 := Blk.made hb1 | skip))
          | (go_at_call 41; refine (sub3 ah am al ph pm pl h1 h2 h3 wp1 wp2 wp3 _).mono ?_; rintro e w2 ⟨v, ⟨rh, rm, rl, c, wr1, wr2, wr3, c0, c1, hs, rfl⟩, rfl, hb2⟩; have HS := Lib.hid hs; clear hs; have X2 : Below wc.heap.size wc w2 := bel_trans (by first | exact X1 | exact bel_alloc X1 _) hb2; (first | (have J2 := J1.below hb2 J1.lt; have j0 := J2.cell 0; have j1 := J2.cell 1; have j2 := J2.cell 2; have j3 := J2.frozen 0; have j4 := J2.frozen 1; have j5 := J2.frozen 2; simp at j0 j1 j2) | (have J2 := Blk.made hb2; have j0 := J2.cell 0; have j1 := J2.cell 1; have j2 := J2.cell 2; have j3 := J2.frozen 0; have j4 := J2.frozen 1; have j5 := J2.frozen 2; simp at j0 j1 j2) | skip)))
      all_goals
        have hz1 := X1.size
        have hz2 := K2.lt
        have ST : Step (V3 ah am al) (V2 bh bl) g (V3 rh rm rl) c := by
          refine ⟨wg.1, wg.2, c0, c1, ?_, big⟩
          rw [HS.out, HP.out]
        have E1 := K1.below X2 K1.lt
        have E2 := K2.below X2 K2.lt
        have EB : Below w.heap.size w w2 := HB.out.trans (X2.mono HB.out.size)
        go_wp2_with fail
        go_meet
      · exact ⟨w2.heap.size, rh, rm, rl, c, rfl, rfl, by have := X2.size; omega, wr1, wr2, wr3, ST, Blk.new _ _ _, E1.alloc _, E2.alloc _, bel_alloc EB _⟩
      · have N := ((J2.set_ 0 (.int .u64 rh)).set_ 1 (.int .u64 rm)).set_ 2 (.int .u64 rl)
        simp at N
        exact ⟨_, rh, rm, rl, c, rfl, rfl, by omega, wr1, wr2, wr3, ST, N, ((E1.far (by simp; omega) _).far (by simp; omega) _).far (by simp; omega) _, ((E2.far (by simp; omega) _).far (by simp; omega) _).far (by simp; omega) _, bel_set (bel_set (bel_set EB (by simp; omega) _) (by simp; omega) _) (by simp; omega) _⟩
      · have N := ((J2.set_ 0 (.int .u64 rh)).set_ 1 (.int .u64 rm)).set_ 2 (.int .u64 rl)
        simp at N
        exact ⟨_, rh, rm, rl, c, rfl, rfl, by omega, wr1, wr2, wr3, ST, N, ((E1.far (by simp; omega) _).far (by simp; omega) _).far (by simp; omega) _, ((E2.far (by simp; omega) _).far (by simp; omega) _).far (by simp; omega) _, bel_set (bel_set (bel_set EB (by simp; omega) _) (by simp; omega) _) (by simp; omega) _⟩
    case rest =>
      obtain ⟨p, h, m, l, c, rfl, rfl, hp, wh, wm, wl, ST, B7, B3, B5, HB2⟩ := hcut
      clear K0 K1 K2 HB a0 a1 a2 b0 b1 big
      have V := V3_pos h1 h2 h3
      go_wp2_with fail
      go_loopw [6, 8] (fun s6 s8 wr => ∃ (g h m l c : Int), s6 = .int .u64 g ∧ s8 = .int .u64 c ∧ Word h ∧ Word m ∧ Word l ∧ Step (V3 ah am al) (V2 bh bl) g (V3 h m l) c ∧ Blk wr p 45 #[.int .u64 h, .int .u64 m, .int .u64 l] ∧ Blk wr (w.heap.size + 1) 24 #[.int .u64 bh, .int .u64 bl] ∧ Blk wr (w.heap.size + 1 + 1) 24 #[.int .u64 0, .int .u64 0] ∧ Hid (Below w.heap.size w wr)) (fun s6 _ _ => (intOf s6).toNat)
      case atStart => exact ⟨g, h, m, l, c, rfl, rfl, wh, wm, wl, ST, B7, B3, B5, HB2⟩
      case round =>
        clear ST B7 B3 B5 HB2 wh wm wl wg
        obtain ⟨g, h, m, l, c, rfl, rfl, wh, wm, wl, ST, B7, B3, B5, HB⟩ := hrel
        by_cases hc : c = 0
        · subst hc
          obtain ⟨q1, q2⟩ := ST.done
          have wg : Word g := ⟨ST.g0, ST.g1⟩
          have Q1 := Lib.hid q1
          clear q1
          have a0 : wr.cell? ⟨p, 0, none⟩ = some (.int .u64 h) := B7.cell 0
          have a1 : wr.cell? ⟨p, 1, none⟩ = some (.int .u64 m) := B7.cell 1
          have a2 : wr.cell? ⟨p, 2, none⟩ = some (.int .u64 l) := B7.cell 2
          go_wp2_with fail
          refine (low_any _ _ _ _).mono ?_
          rintro e w3 ⟨rfl, hb3⟩
          have B53 := B5.below hb3 B5.lt
          have b0 : w3.cell? ⟨w.heap.size + 1 + 1, 0, none⟩ = some (.int .u64 0) := B53.cell 0
          have b1 : w3.cell? ⟨w.heap.size + 1 + 1, 1, none⟩ = some (.int .u64 0) := B53.cell 1
          have f0 := B53.frozen 0
          have f1 := B53.frozen 1
          have fin : IsStep (V3 ah am al) (V2 bh bl) (.tuple #[.int .u64 g, .agg #[.int .u64 m, .int .u64 l]]) := by
            obtain rfl : h = 0 := step_low wh wm wl h4 h5 q2
            have e0 : V3 0 m l = V2 m l := by unfold V3 V2; omega
            rw [e0] at q2
            exact ⟨_, _, _, wg, wm, wl, by rw [← e0]; exact Q1.out, q2, rfl⟩
          have EB := Lib.hid (bel_trans HB.out hb3)
          clear hb3 HB B5 B53 B7 B3 ST a0 a1 a2 V
          go_wp2
          refine bodyPost_ret (by simp [results, Try.results56, go_sem, b0, b1]) rfl ⟨_, fin, rfl, ?_⟩
          exact bel_set (bel_set EB.out (by simp; omega) _) (by simp; omega) _
        · obtain ⟨hg1, rfl⟩ := ST.pos hc V.1 (V3_pos wh wm wl).2
          have hg2 := ST.g1
          clear hc
          have a0 : wr.cell? ⟨p, 0, none⟩ = some (.int .u64 h) := B7.cell 0
          have a1 : wr.cell? ⟨p, 1, none⟩ = some (.int .u64 m) := B7.cell 1
          have a2 : wr.cell? ⟨p, 2, none⟩ = some (.int .u64 l) := B7.cell 2
          have b0 : wr.cell? ⟨w.heap.size + 1, 0, none⟩ = some (.int .u64 bh) := B3.cell 0
          have b1 : wr.cell? ⟨w.heap.size + 1, 1, none⟩ = some (.int .u64 bl) := B3.cell 1
          have hz7 := B7.lt
          go_upto_region 7 with fail
          go_cut [9, 10] (fun s9 s10 wx => ∃ (p9 : Nat) (h' m' l' d : Int), s9 = .pointer (some ⟨p9, 0, none⟩) ∧ s10 = .int .u64 d ∧ p < p9 ∧ Word h' ∧ Word m' ∧ Word l' ∧ 0 ≤ d ∧ d ≤ 1 ∧ V3 h' m' l' + d * 6277101735386680763835789423207666416102355444464034512896 = V3 h m l + V3 0 bh bl ∧ Blk wx p9 45 #[.int .u64 h', .int .u64 m', .int .u64 l'] ∧ Blk wx p 45 #[.int .u64 h, .int .u64 m, .int .u64 l] ∧ Blk wx (w.heap.size + 1) 24 #[.int .u64 bh, .int .u64 bl] ∧ Blk wx (w.heap.size + 1 + 1) 24 #[.int .u64 0, .int .u64 0] ∧ Hid (Below w.heap.size w wx))
          case first =>
            go_region_held3 (fun w' => w'.cell? ⟨p, 0, none⟩ = some (.int .u64 h) ∧ w'.cell? ⟨p, 1, none⟩ = some (.int .u64 m) ∧ w'.cell? ⟨p, 2, none⟩ = some (.int .u64 l) ∧ w'.cell? ⟨w.heap.size + 1, 0, none⟩ = some (.int .u64 bh) ∧ w'.cell? ⟨w.heap.size + 1, 1, none⟩ = some (.int .u64 bl))
              ((refine kp5c (W := wr) ?_ ⟨a0, a1, a2, b0, b1⟩; repeat (first | exact Below.refl _ _ | exact X2 | exact X1 | refine bel_drew ?_ | refine bel_alloc ?_ _ | refine bel_set ?_ (by first | exact Nat.le_refl _ | exact X1.size) _)))
              (first
                | (go_at_call 52; refine (widen_any bh bl _).mono ?_; rintro e w1 ⟨rfl, hb1⟩; have X1 : Below wr.heap.size wr w1 := bel_trans (by repeat (first | exact Below.refl _ _ | refine bel_drew ?_ | refine bel_alloc ?_ _)) hb1; (first | have J1 := Blk.madeD hb1 | have J1 := Blk.made hb1 | skip))
                | (go_at_call 40; refine (add3 h m l 0 bh bl wh wm wl ⟨by decide, by decide⟩ h4 h5 _).mono ?_; rintro e w2 ⟨v, ⟨rh, rm, rl, d, wr1, wr2, wr3, d0, d1, hs, rfl⟩, rfl, hb2⟩; have HS := Lib.hid hs; clear hs; have X2 : Below wr.heap.size wr w2 := bel_trans (by first | exact X1 | exact bel_alloc X1 _) hb2; (first | (have J2 := J1.below hb2 J1.lt; have j0 := J2.cell 0; have j1 := J2.cell 1; have j2 := J2.cell 2; have j3 := J2.frozen 0; have j4 := J2.frozen 1; have j5 := J2.frozen 2; simp at j0 j1 j2) | (have J2 := Blk.made hb2; have j0 := J2.cell 0; have j1 := J2.cell 1; have j2 := J2.cell 2; have j3 := J2.frozen 0; have j4 := J2.frozen 1; have j5 := J2.frozen 2; simp at j0 j1 j2) | skip)))
            all_goals
              have hz1 := X1.size
              have E7 := B7.below X2 B7.lt
              have E3 := B3.below X2 B3.lt
              have E5 := B5.below X2 B5.lt
              have EB : Below w.heap.size w w2 := HB.out.trans (X2.mono HB.out.size)
              go_wp2_with fail
              go_meet
            · exact ⟨w2.heap.size, rh, rm, rl, d, rfl, rfl, by have := X2.size; omega, wr1, wr2, wr3, d0, d1, HS.out, Blk.new _ _ _, E7.alloc _, E3.alloc _, E5.alloc _, bel_alloc EB _⟩
            · have N := ((J2.set_ 0 (.int .u64 rh)).set_ 1 (.int .u64 rm)).set_ 2 (.int .u64 rl)
              simp at N
              exact ⟨_, rh, rm, rl, d, rfl, rfl, by omega, wr1, wr2, wr3, d0, d1, HS.out, N, ((E7.far (by simp; omega) _).far (by simp; omega) _).far (by simp; omega) _, ((E3.far (by simp; omega) _).far (by simp; omega) _).far (by simp; omega) _, ((E5.far (by simp; omega) _).far (by simp; omega) _).far (by simp; omega) _, bel_set (bel_set (bel_set EB (by simp; omega) _) (by simp; omega) _) (by simp; omega) _⟩
            · have N := ((J2.set_ 0 (.int .u64 rh)).set_ 1 (.int .u64 rm)).set_ 2 (.int .u64 rl)
              simp at N
              exact ⟨_, rh, rm, rl, d, rfl, rfl, by omega, wr1, wr2, wr3, d0, d1, HS.out, N, ((E7.far (by simp; omega) _).far (by simp; omega) _).far (by simp; omega) _, ((E3.far (by simp; omega) _).far (by simp; omega) _).far (by simp; omega) _, ((E5.far (by simp; omega) _).far (by simp; omega) _).far (by simp; omega) _, bel_set (bel_set (bel_set EB (by simp; omega) _) (by simp; omega) _) (by simp; omega) _⟩
          case rest =>
            obtain ⟨p9, h', m', l', d, rfl, rfl, hp9, w1', w2', w3', d0, d1, hs, C9, C7, C3, C5, HB9⟩ := hcut
            have e0 : V3 0 bh bl = V2 bh bl := by unfold V3 V2; omega
            rw [e0] at hs
            have ST2 := ST.next (V3_pos wh wm wl).2 V.1 d0 d1 hs
            have f0 : wc.cell? ⟨p9, 0, none⟩ = some (.int .u64 h') := C9.cell 0
            have f1 : wc.cell? ⟨p9, 1, none⟩ = some (.int .u64 m') := C9.cell 1
            have f2 : wc.cell? ⟨p9, 2, none⟩ = some (.int .u64 l') := C9.cell 2
            have g0 : wc.cell? ⟨p, 0, none⟩ = some (.int .u64 h) := C7.cell 0
            have g1 : wc.cell? ⟨p, 1, none⟩ = some (.int .u64 m) := C7.cell 1
            have g2 : wc.cell? ⟨p, 2, none⟩ = some (.int .u64 l) := C7.cell 2
            have g3 := C7.frozen 0
            have g4 := C7.frozen 1
            have g5 := C7.frozen 2
            have N7 := ((C7.set_ 0 (.int .u64 h')).set_ 1 (.int .u64 m')).set_ 2 (.int .u64 l')
            simp at N7
            have N3 := ((C3.far (p := ⟨p, 0, none⟩) (by simp; omega) (.int .u64 h')).far (p := ⟨p, 1, none⟩) (by simp; omega) (.int .u64 m')).far (p := ⟨p, 2, none⟩) (by simp; omega) (.int .u64 l')
            have N5 := ((C5.far (p := ⟨p, 0, none⟩) (by simp; omega) (.int .u64 h')).far (p := ⟨p, 1, none⟩) (by simp; omega) (.int .u64 m')).far (p := ⟨p, 2, none⟩) (by simp; omega) (.int .u64 l')
            have NB : Hid (Below w.heap.size w (((wc.setCell ⟨p, 0, none⟩ (.int .u64 h')).setCell ⟨p, 1, none⟩ (.int .u64 m')).setCell ⟨p, 2, none⟩ (.int .u64 l'))) := bel_set (bel_set (bel_set HB9.out (by simp; omega) _) (by simp; omega) _) (by simp; omega) _
            clear hs e0 C9 C7 C3 C5 HB9 B7 B3 B5 HB a0 a1 a2 b0 b1
            go_wp2
            go_roundw
            case rel => exact ⟨_, h', m', l', _, rfl, rfl, w1', w2', w3', ST2, N7, N3, N5, NB⟩
            case measure => simp [intOf]; omega
end Go.Proofs.Ytbpgallhlfjgjaa
