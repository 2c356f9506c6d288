/-
  The contract of U128's Mul, for all words: three words hold the product. Conditions: the fields and the factor are words of 64 bits.
-/
import Derived.Test.YtbpgallhlfjgjaaThree
import Derived.Deep.RegionHeld3
import Derived.Deep.DeepCutAuto
namespace Go.Proofs.Ytbpgallhlfjgjaa
open Go.RowKit

theorem mul2_eq {ah al b h5 l5 h6 l6 : Int} (w5 : Word h5) (w5' : Word l5) (w6 : Word h6) (w6' : Word l6) (h1 : Word ah) (h2 : Word al) (h3 : Word b) (hv5 : V2 h5 l5 = al * b) (hv6 : V2 h6 l6 = ah * b) :
    Is3 (V2 ah al * b) (.agg #[.int .u64 (IntKind.u64.wrap (h6 + carry (h5 + l6))), .int .u64 (lowOf (h5 + l6)), .int .u64 l5]) := by
  have k0 : 0 ≤ carry (h5 + l6) := by have := carry_ge w5 w6' (Int.le_refl 0); rwa [Int.add_zero] at this
  have k1 : carry (h5 + l6) ≤ 1 := by have := carry_le w5 w6' (Int.le_refl 0) (by decide); rwa [Int.add_zero] at this
  have e1 := carry_low (h5 + l6)
  have w7 := word_lowOf (h5 + l6)
  have hp : ah * b ≤ 18446744073709551615 * 18446744073709551615 := Int.mul_le_mul (by have := h1.2; omega) (by have := h3.2; omega) h3.1 (by decide)
  have hq : al * b ≤ 18446744073709551615 * 18446744073709551615 := Int.mul_le_mul (by have := h2.2; omega) (by have := h3.2; omega) h3.1 (by decide)
  have e2 : V2 ah al * b = (ah * b) * 18446744073709551616 + al * b := by unfold V2; rw [Int.add_mul, Int.mul_right_comm]
  obtain ⟨_, _⟩ := w5; obtain ⟨_, _⟩ := w5'; obtain ⟨_, _⟩ := w6; obtain ⟨_, _⟩ := w6'
  unfold V2 at hv5 hv6
  have e3 : h6 + carry (h5 + l6) < 18446744073709551616 := by
    generalize ah * b = p at *
    generalize al * b = q at *
    obtain ⟨_, _⟩ := w7
    omega
  rw [show IntKind.u64.wrap (h6 + carry (h5 + l6)) = h6 + carry (h5 + l6) by rw [IntKind.wrap_u64]; omega]
  refine ⟨_, _, _, ⟨by omega, e3⟩, w7, ⟨by omega, by omega⟩, ?_, rfl⟩
  rw [e2, ← hv5, ← hv6]
  unfold V3
  omega

set_option maxHeartbeats 3200000 in
theorem mul2 (ah al b : Int) (h1 : Word ah) (h2 : Word al) (h3 : Word b) (w : World) :
    Calls Try.prog 27 #[.agg #[.int .u64 ah, .int .u64 al], .int .u64 b] w (Ret (Is3 (V2 ah al * b)) w) := by
  go_enter Try.func27, Try.ntmps27
  go_upto_region 1 with fail
  go_cut [5, 6] (fun s5 s6 wx => ∃ g5 g6 h5 l5 h6 l6, s5 = .pointer (some ⟨g5, 0, none⟩) ∧ s6 = .pointer (some ⟨g6, 0, none⟩) ∧ wx.cell? ⟨g5, 0, none⟩ = some (.int .u64 h5) ∧ wx.cell? ⟨g5, 1, none⟩ = some (.int .u64 l5) ∧ wx.cell? ⟨g6, 0, none⟩ = some (.int .u64 h6) ∧ wx.cell? ⟨g6, 1, none⟩ = some (.int .u64 l6)
    ∧ Word h5 ∧ Word l5 ∧ Word h6 ∧ Word l6 ∧ V2 h5 l5 = al * b ∧ V2 h6 l6 = ah * b ∧ Below (w.heap.size + 2) ((w.alloc (.cells #[.int .u64 ah, .int .u64 al] 24)).alloc (.cells #[.int .u64 0, .int .u64 0, .int .u64 0] 45)) wx)
  case first =>
    go_region_held3 (fun w' => w'.cell? ⟨w.heap.size, 0, none⟩ = some (.int .u64 ah) ∧ w'.cell? ⟨w.heap.size, 1, none⟩ = some (.int .u64 al)) (simp [go_sem, World.cell?_alloc_past])
      (first
        | (go_at_call_of 23 (Value.int .u64 al); refine (mul1x al b h2 h3 _).mono ?_; rintro e w' ⟨h5, l5, hh5, hl5, hv, rfl, c, rfl⟩; have HV5 := Lib.hid hv; clear hv)
        | (go_at_call_of 23 (Value.int .u64 ah); refine (mul1x ah b h1 h3 _).mono ?_; rintro e w' ⟨h6, l6, hh6, hl6, hv, rfl, c6, rfl⟩; have HV6 := Lib.hid hv; clear hv))
    all_goals
      go_wp2_with fail
      go_meet
      refine ⟨_, _, h5, l5, h6, l6, rfl, rfl, by simp [go_sem], by simp [go_sem], by simp [go_sem], by simp [go_sem], hh5, hl5, hh6, hl6, HV5.out, HV6.out, ?_⟩
      repeat (first | exact Below.refl _ _ | refine Below.drew ?_ | refine Below.alloc ?_ (by simp) _)
  case rest =>
    obtain ⟨g5, g6, h5, l5, h6, l6, rfl, rfl, c50, c51, c60, c61, w5, w5', w6, w6', hv5, hv6, hb⟩ := hcut
    have fin := mul2_eq w5 w5' w6 w6' h1 h2 h3 hv5 hv6
    have HB := Lib.hid hb
    have r0 := hb.cell (p := ⟨w.heap.size + 1, 0, none⟩) (by simp)
    have r1 := hb.cell (p := ⟨w.heap.size + 1, 1, none⟩) (by simp)
    have r2 := hb.cell (p := ⟨w.heap.size + 1, 2, none⟩) (by simp)
    have f0 := hb.frozen (p := ⟨w.heap.size + 1, 0, none⟩) (by simp)
    have f1 := hb.frozen (p := ⟨w.heap.size + 1, 1, none⟩) (by simp)
    have f2 := hb.frozen (p := ⟨w.heap.size + 1, 2, none⟩) (by simp)
    have A0 : ∀ w, (callFunc 45 #[.int .u64 h5, .int .u64 l6, .int .u64 0]).run Try.prog w = .ok (.value (.tuple #[.int .u64 (lowOf (h5 + l6)), .int .u64 (carry (h5 + l6))])) w := fun w => by
      have := add64w h5 l6 0 w5 w6' (Int.le_refl 0) (by decide) w
      rwa [Int.add_zero] at this
    simp [go_sem] at r0 r1 r2 f0 f1 f2
    clear hv5 hv6 hb
    go_wp2_with (first | simp only [A0])
    refine bodyPost_ret (by simp [results, Try.results27, go_sem, r0, r1, r2]) rfl ⟨_, fin, rfl, ?_⟩
    exact bel_set (bel_set (bel_set ((bel_alloc (bel_alloc (Below.refl _ _) _) _).trans (HB.out.mono (by omega))) (by simp) _) (by simp) _) (by simp) _
end Go.Proofs.Ytbpgallhlfjgjaa
