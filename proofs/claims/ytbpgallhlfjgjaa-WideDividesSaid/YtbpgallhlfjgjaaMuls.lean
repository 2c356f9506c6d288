/-
  The walk of WideMuls: for every number of two words and every word it answers true. Conditions: the fields are words of 64 bits.
-/
import Derived.Test.YtbpgallhlfjgjaaRmul
import Derived.Test.YtbpgallhlfjgjaaStep
namespace Go.Proofs.Ytbpgallhlfjgjaa
open Go.RowKit

theorem rdw_one {w : World} {g : Nat} {x : Int} (hg : g < w.heap.size) (h : w.cell? ⟨g, 0, none⟩ = some (.int .u64 x)) : RdW w (some ⟨g, 0, none⟩) [x] := by
  refine .inr ⟨g, 0, rfl, hg, fun i y hi => ?_⟩
  rcases i with _ | i
  · simp at hi
    subst hi
    simpa using h
  · simp at hi
theorem one_word {x : Int} (h : Word x) : ∀ y ∈ [x], Word y := by
  intro y hy
  simp at hy
  subst hy
  exact h
theorem wv_one (x : Int) : wv [x] = x := by simp [wv]
/-- A cell that was there, behind a call. -/
theorem cell_behind {W w1 : World} {g : Nat} {u : Value} (hb : Below W.heap.size W w1) (h : W.cell? ⟨g, 0, none⟩ = some u) : w1.cell? ⟨g, 0, none⟩ = some u := (hb.cell (World.block_lt_of_cell? _ _ h)).trans h

set_option maxRecDepth 100000 in
set_option maxHeartbeats 6400000 in
theorem muls_walk (ah al b : Int) (h1 : Word ah) (h2 : Word al) (h3 : Word b) (w : World) :
    Calls Try.prog 4 #[.agg #[.int .u64 ah, .int .u64 al], .int .u64 b] w fun e w' => e = .returned (.bool true) ∧ Below w.heap.size w w' := by
  go_enter Try.func4, Try.ntmps4
  go_wp2_with fail
  refine (works1 _).mono ?_
  rintro e w1 ⟨rfl, hb1⟩
  have K0 := Blk.made hb1
  have D1 := Lib.hid (bel_trans (bel_alloc (Below.refl w.heap.size w) _) hb1)
  clear hb1
  have a0 : w1.cell? ⟨w.heap.size, 0, none⟩ = some (.int .u64 ah) := K0.cell 0
  have a1 : w1.cell? ⟨w.heap.size, 1, none⟩ = some (.int .u64 al) := K0.cell 1
  go_upto_region 4 with fail
  go_cut [6] (fun s6 wx => s6 = .bool true ∧ Hid (Below w1.heap.size w1 wx))
  case first =>
    go_region_held3 (fun w' => w'.cell? ⟨w.heap.size, 0, none⟩ = some (.int .u64 ah) ∧ w'.cell? ⟨w.heap.size, 1, none⟩ = some (.int .u64 al))
      ((refine kp2b (W := w1) ?_ ⟨a0, a1⟩; repeat (first | exact Below.refl _ _ | exact X7 | exact X6 | exact X5 | exact X4 | refine bel_drew ?_ | refine bel_alloc ?_ _)))
      (first
        | (go_at_call 23; refine (mul1x al b h2 h3 _).mono ?_; rintro e w' ⟨mh, ml, wm1, wm2, hv, rfl, c, rfl⟩; have HVM := Lib.hid hv; clear hv)
        | (go_at_call 25; have _ := HV1; refine (rof_any _ 1 1 [b] _ rfl (rdw_one (by first | (simp; done) | (have := hb4.size; simp at this ⊢; omega)) (by first | (simp [go_sem]; done) | exact cell_behind hb4 (by simp [go_sem]))) (one_word h3) (by decide)).mono ?_; rintro e w5 ⟨ys, A2, c2, ⟨hv2, hl2⟩, rfl, hc2, hm2, hr2, hb5⟩; have hl2' : ys.length = 64 := hl2; rw [hl2']; have HV2 := Lib.hid hv2; have HL2 := Lib.hid hl2'; clear hv2 hl2 hl2'; have X5 : Below w1.heap.size w1 w5 := bel_trans (by first | exact X4 | exact bel_alloc X4 _) hb5; have hr3 : Rd w5 A1 xs := by first | exact hr1.below hb5 (Nat.le_refl _) | exact (hr1.alloc _).below hb5 (Nat.le_refl _))
        | (go_at_call 25; refine (rof_any _ 1 1 [al] _ rfl (rdw_one (by simp <;> omega) (by simp [go_sem])) (one_word h2) (by decide)).mono ?_; rintro e w4 ⟨xs, A1, c1, ⟨hv1, hl1⟩, rfl, hc1, hm1, hr1, hb4⟩; have hl1' : xs.length = 64 := hl1; rw [hl1']; have HV1 := Lib.hid hv1; have HL1 := Lib.hid hl1'; clear hv1 hl1 hl1'; have X4 : Below w1.heap.size w1 w4 := bel_trans (by repeat (first | exact Below.refl _ _ | refine bel_drew ?_ | refine bel_alloc ?_ _)) hb4)
        | (go_at_call 24; refine (rmul_any A1 A2 64 64 c1 c2 xs ys _ HL1.out HL2.out hr3 hr2 (by decide) (by decide)).mono ?_; rintro e w6 ⟨zs, A3, c3, hs3, rfl, hc3, hm3, hr6, hb6⟩; have X6 : Below w1.heap.size w1 w6 := bel_trans X5 hb6)
        | (go_at_call 17; refine (is_any mh ml A3 _ c3 zs wm1 wm2 _ rfl hr6 (by have := hs3.2; rw [HL1.out, HL2.out] at this; omega)).mono ?_; rw [show decide (V2 mh ml = val zs) = true by rw [decide_eq_true_eq, HVM.out, hs3.1, HV1.out, HV2.out, wv_one, wv_one]]; rintro e w7 ⟨rfl, hb7⟩; have X7 : Below w1.heap.size w1 w7 := bel_trans X6 hb7))
    all_goals
      go_wp2_with fail
      go_meet
      exact ⟨rfl, X7⟩
  case rest =>
    obtain ⟨rfl, HX⟩ := hcut
    have K1 := K0.below HX.out K0.lt
    have D2 := Lib.hid (bel_trans D1.out HX.out)
    clear a0 a1 HX K0 D1
    have a0 : wc.cell? ⟨w.heap.size, 0, none⟩ = some (.int .u64 ah) := K1.cell 0
    have a1 : wc.cell? ⟨w.heap.size, 1, none⟩ = some (.int .u64 al) := K1.cell 1
    go_upto_region 5 with fail
    go_cut [7] (fun s7 wx => s7 = .bool true ∧ Hid (Below wc.heap.size wc wx))
    case first =>
      go_region_held3 (fun w' => w'.cell? ⟨w.heap.size, 0, none⟩ = some (.int .u64 ah) ∧ w'.cell? ⟨w.heap.size, 1, none⟩ = some (.int .u64 al))
        ((refine kp2b (W := wc) ?_ ⟨a0, a1⟩; repeat (first | exact Below.refl _ _ | exact X7 | exact X6 | exact X5 | exact X4 | exact X3 | refine bel_drew ?_ | refine bel_alloc ?_ _)))
        (first
          | (go_at_call 27; refine (mul2 ah al b h1 h2 h3 _).mono ?_; rintro e w3 ⟨v, ⟨mh, mm, ml, wm1, wm2, wm3, hv, rfl⟩, rfl, hb3⟩; have HVM := Lib.hid hv; clear hv; have X3 : Below wc.heap.size wc w3 := bel_trans (by repeat (first | exact Below.refl _ _ | refine bel_drew ?_ | refine bel_alloc ?_ _)) hb3)
          | (go_at_call 15; refine (of_any ah al h1 h2 _).mono ?_; rintro e w4 ⟨xs, A1, c1, ⟨hv1, hl1⟩, rfl, hc1, hm1, hr1, hb4⟩; rw [hl1]; have HV1 := Lib.hid hv1; have HL1 := Lib.hid hl1; clear hv1 hl1; have X4 : Below wc.heap.size wc w4 := bel_trans (by first | exact X3 | exact bel_alloc X3 _) hb4)
          | (go_at_call 25; refine (rof_any _ 1 1 [b] _ rfl (rdw_one (by first | (simp; done) | (have := hb4.size; have := hb3.size; simp at *; omega)) (by first | (simp [go_sem]; done) | exact cell_behind hb4 (by simp [go_sem]) | exact cell_behind hb4 (cell_behind hb3 (by simp [go_sem])))) (one_word h3) (by decide)).mono ?_; rintro e w5 ⟨ys, A2, c2, ⟨hv2, hl2⟩, rfl, hc2, hm2, hr2, hb5⟩; have hl2' : ys.length = 64 := hl2; rw [hl2']; have HV2 := Lib.hid hv2; have HL2 := Lib.hid hl2'; clear hv2 hl2 hl2'; have X5 : Below wc.heap.size wc w5 := bel_trans (by first | exact X4 | exact bel_alloc X4 _) hb5; have hr3 : Rd w5 A1 xs := by first | exact hr1.below hb5 (Nat.le_refl _) | exact (hr1.alloc _).below hb5 (Nat.le_refl _))
          | (go_at_call 24; refine (rmul_any A1 A2 128 64 c1 c2 xs ys _ HL1.out HL2.out hr3 hr2 (by decide) (by decide)).mono ?_; rintro e w6 ⟨zs, A3, c3, hs3, rfl, hc3, hm3, hr6, hb6⟩; have X6 : Below wc.heap.size wc w6 := bel_trans X5 hb6)
          | (go_at_call 26; refine (is3_any mh mm ml A3 _ c3 zs wm1 wm2 wm3 _ rfl hr6 (by have := hs3.2; rw [HL1.out, HL2.out] at this; omega)).mono ?_; rw [show decide (V3 mh mm ml = val zs) = true by rw [decide_eq_true_eq, HVM.out, hs3.1, HV1.out, HV2.out, wv_one]]; rintro e w7 ⟨rfl, hb7⟩; have X7 : Below wc.heap.size wc w7 := bel_trans X6 hb7))
      all_goals
        go_wp2_with fail
        go_meet
        exact ⟨rfl, X7⟩
    case rest =>
      obtain ⟨rfl, HY⟩ := hcut
      have D3 := Lib.hid (bel_trans D2.out HY.out)
      clear a0 a1 HY K1 D2
      go_wp2
      go_ret
      exact ⟨rfl, D3.out⟩
end Go.Proofs.Ytbpgallhlfjgjaa
