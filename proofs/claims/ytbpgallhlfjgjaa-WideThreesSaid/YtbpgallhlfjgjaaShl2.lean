/-
  The contract of U128's Shl, for all words and every shift. Conditions: the fields are words of 64 bits, the shift is an int.
-/
import Derived.Test.YtbpgallhlfjgjaaShl
namespace Go.Proofs.Ytbpgallhlfjgjaa
open Go.RowKit

/-- The number of two words, shifted, modulo 2^128. -/
def shlV2 (v : Int) (k : Nat) : Int := v * 2 ^ k % 340282366920938463463374607431768211456
theorem shl2_eq {h l h' m' l' : Int} {k : Nat} (w2 : Word m') (w3 : Word l') (hv : V3 h' m' l' = shlV (V3 0 h l) k) : V2 m' l' = shlV2 (V2 h l) k := by
  have e : V3 0 h l = V2 h l := by unfold V3 V2; omega
  obtain ⟨_, _⟩ := w2; obtain ⟨_, _⟩ := w3
  rw [e] at hv
  unfold shlV at hv
  unfold shlV2
  unfold V3 at hv
  generalize V2 h l * 2 ^ k = x at *
  unfold V2
  omega

set_option maxHeartbeats 1000000 in
theorem shl2 (h l n : Int) (h1 : Word h) (h2 : Word l) (hn' : -9223372036854775808 ≤ n) (w : World) :
    Calls Try.prog 32 #[.agg #[.int .u64 h, .int .u64 l], .int .i64 n] w (Ret (Is2 (shlV2 (V2 h l) n.toNat)) w) := by
  go_enter Try.func32, Try.ntmps32
  go_wp2_with fail
  refine (widen_any _ _ _).mono ?_
  rintro e w1 ⟨rfl, hb1⟩
  go_wp2_with fail
  refine (shl3 _ _ _ _ ⟨by decide, by decide⟩ h1 h2 hn' _).mono ?_
  rintro e w2 ⟨v, ⟨h', m', l', wh, wm, wl, hv, rfl⟩, rfl, hb2⟩
  have HV := Lib.hid hv
  clear hv
  go_wp2_with fail
  refine (low_any _ _ _ _).mono ?_
  rintro e w3 ⟨rfl, hb3⟩
  have hb := bel_trans (bel_alloc (bel_trans hb1 hb2) _) hb3
  have r0 := hb.cell (p := ⟨w.heap.size + 1, 0, none⟩) (by simp)
  have r1 := hb.cell (p := ⟨w.heap.size + 1, 1, none⟩) (by simp)
  have f0 := hb.frozen (p := ⟨w.heap.size + 1, 0, none⟩) (by simp)
  have f1 := hb.frozen (p := ⟨w.heap.size + 1, 1, none⟩) (by simp)
  simp [go_sem] at r0 r1 f0 f1
  have HB := Lib.hid hb
  clear hb hb1 hb2 hb3
  go_wp2
  refine bodyPost_ret (by simp [results, Try.results32, go_sem, r0, r1]) rfl ⟨_, ⟨m', l', wm, wl, shl2_eq wm wl HV.out, rfl⟩, rfl, ?_⟩
  exact bel_set (bel_set (bel_trans (bel_alloc (bel_alloc (Below.refl _ _) _) _) HB.out) (by simp) _) (by simp) _
end Go.Proofs.Ytbpgallhlfjgjaa
