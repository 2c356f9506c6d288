/-
  Contracts of U192's and U128's Shr, for all words and every shift. Conditions: the fields are words of 64 bits, the shift is an int.
-/
import Derived.Test.YtbpgallhlfjgjaaShr
namespace Go.Proofs.Ytbpgallhlfjgjaa
open Go.RowKit

theorem shr_big {v : Int} {k : Nat} (h0 : 0 ≤ v) (h1 : v < 6277101735386680763835789423207666416102355444464034512896) (hk : 192 ≤ k) : v / 2 ^ k = 0 ∧ v % 2 ^ k = v := by
  have e : (2 : Int) ^ k = 6277101735386680763835789423207666416102355444464034512896 * 2 ^ (k - 192) := by
    rw [show k = 192 + (k - 192) by omega, Int.pow_add, show (2 : Int) ^ 192 = 6277101735386680763835789423207666416102355444464034512896 by decide, show 192 + (k - 192) - 192 = k - 192 by omega]
  have hp := pow_pos' (k - 192)
  have : v < 2 ^ k := by
    have : 6277101735386680763835789423207666416102355444464034512896 * 1 ≤ 6277101735386680763835789423207666416102355444464034512896 * (2 : Int) ^ (k - 192) := Int.mul_le_mul_of_nonneg_left (by omega) (by decide)
    omega
  exact ⟨Int.ediv_eq_zero_of_lt h0 this, Int.emod_eq_of_lt h0 this⟩
theorem V3_zero {h m l : Int} (w1 : Word h) (w2 : Word m) (w3 : Word l) : V3 h m l ≠ 0 ↔ ¬ (h = 0 ∧ m = 0 ∧ l = 0) := by
  obtain ⟨_, _⟩ := w1; obtain ⟨_, _⟩ := w2; obtain ⟨_, _⟩ := w3
  unfold V3
  omega

set_option maxHeartbeats 3200000 in
theorem shr3 (ah am al n : Int) (h1 : Word ah) (h2 : Word am) (h3 : Word al) (hn' : -9223372036854775808 ≤ n) (w : World) :
    Calls Try.prog 29 #[.agg #[.int .u64 ah, .int .u64 am, .int .u64 al], .int .i64 n] w (Ret (IsShr3 (V3 ah am al) n.toNat) w) := by
  by_cases hn : n < 192
  · exact shr3_small ah am al n h1 h2 h3 hn hn' w
  · have g := V3_pos h1 h2 h3
    have b := shr_big g.1 g.2 (k := n.toNat) (by omega)
    have z := V3_zero h1 h2 h3
    have fin : IsShr3 (V3 ah am al) n.toNat (.tuple #[.agg #[.int .u64 0, .int .u64 0, .int .u64 0], .bool (decide (V3 ah am al ≠ 0))]) := by
      refine ⟨0, 0, 0, ⟨by decide, by decide⟩, ⟨by decide, by decide⟩, ⟨by decide, by decide⟩, by rw [b.1]; decide, by rw [b.2]⟩
    clear g b
    by_cases hz : ah = 0 ∧ am = 0 ∧ al = 0
    · obtain ⟨rfl, rfl, rfl⟩ := hz
      rw [show decide (V3 0 0 0 ≠ 0) = false by decide] at fin
      clear z
      go_enter Try.func29, Try.ntmps29
      go_wp2
      go_region
      go_wp2
      refine bodyPost_ret (by simp [results, Try.results29, go_sem]) rfl ⟨_, fin, rfl, ?_⟩
      exact bel_drew (bel_alloc (bel_alloc (Below.refl _ _) _) _)
    · rw [show decide (V3 ah am al ≠ 0) = true by simp only [decide_eq_true_eq]; exact z.2 hz] at fin
      clear z
      by_cases z1 : ah = 0
      · subst z1
        by_cases z2 : am = 0
        · subst z2
          have z3 : ¬ al = 0 := fun e => hz ⟨rfl, rfl, e⟩
          clear hz
          go_enter Try.func29, Try.ntmps29
          go_wp2
          go_region
          go_wp2
          refine bodyPost_ret (by simp [results, Try.results29, go_sem]) rfl ⟨_, fin, rfl, ?_⟩
          exact bel_drew (bel_alloc (bel_alloc (Below.refl _ _) _) _)
        · clear hz
          go_enter Try.func29, Try.ntmps29
          go_wp2
          go_region
          go_wp2
          refine bodyPost_ret (by simp [results, Try.results29, go_sem]) rfl ⟨_, fin, rfl, ?_⟩
          exact bel_drew (bel_alloc (bel_alloc (Below.refl _ _) _) _)
      · clear hz
        go_enter Try.func29, Try.ntmps29
        go_wp2
        go_region
        go_wp2
        refine bodyPost_ret (by simp [results, Try.results29, go_sem]) rfl ⟨_, fin, rfl, ?_⟩
        exact bel_drew (bel_alloc (bel_alloc (Below.refl _ _) _) _)

/-- The number, in two words, shifted down, and whether a bit that is 1 was shifted out. -/
def IsShr2 (a : Int) (k : Nat) (v : Value) : Prop := ∃ h l : Int, Word h ∧ Word l ∧ V2 h l = a / 2 ^ k ∧ v = .tuple #[.agg #[.int .u64 h, .int .u64 l], .bool (decide (a % 2 ^ k ≠ 0))]
theorem shr2_eq {h l h' m' l' : Int} {k : Nat} (w1 : Word h) (w2 : Word l) (g1 : Word h') (g2 : Word m') (g3 : Word l') (hv : V3 h' m' l' = V3 0 h l / 2 ^ k) : V2 m' l' = V2 h l / 2 ^ k := by
  have e : V3 0 h l = V2 h l := by unfold V3 V2; omega
  have hb : V2 h l / 2 ^ k ≤ V2 h l := Int.ediv_le_self _ (by obtain ⟨_, _⟩ := w1; obtain ⟨_, _⟩ := w2; unfold V2; omega)
  rw [e] at hv
  rw [← hv] at hb ⊢
  obtain ⟨_, _⟩ := w1; obtain ⟨_, _⟩ := w2; obtain ⟨_, _⟩ := g1; obtain ⟨_, _⟩ := g2; obtain ⟨_, _⟩ := g3
  unfold V3 V2 at *
  omega

set_option maxHeartbeats 1000000 in
theorem shr2 (h l n : Int) (h1 : Word h) (h2 : Word l) (hn' : -9223372036854775808 ≤ n) (w : World) :
    Calls Try.prog 28 #[.agg #[.int .u64 h, .int .u64 l], .int .i64 n] w (Ret (IsShr2 (V2 h l) n.toNat) w) := by
  go_enter Try.func28, Try.ntmps28
  go_wp2_with fail
  refine (widen_any _ _ _).mono ?_
  rintro e w1 ⟨rfl, hb1⟩
  go_wp2_with fail
  refine (shr3 _ _ _ _ ⟨by decide, by decide⟩ h1 h2 hn' _).mono ?_
  rintro e w2 ⟨v, ⟨h', m', l', wh, wm, wl, hv, rfl⟩, rfl, hb2⟩
  have HV := Lib.hid hv
  clear hv
  have e0 : V3 0 h l = V2 h l := by unfold V3 V2; omega
  rw [e0]
  clear e0
  generalize hlo : decide (V2 h l % 2 ^ n.toNat ≠ 0) = lo
  have fin : IsShr2 (V2 h l) n.toNat (.tuple #[.agg #[.int .u64 m', .int .u64 l'], .bool lo]) := ⟨m', l', wm, wl, shr2_eq h1 h2 wh wm wl HV.out, by rw [← hlo]⟩
  clear hlo HV
  go_wp2_with fail
  refine (low_any _ _ _ _).mono ?_
  rintro e w3 ⟨rfl, hb3⟩
  have hb := bel_trans (bel_alloc (bel_trans hb1 hb2) _) hb3
  have r0 := hb.cell (p := ⟨w.heap.size + 1, 0, none⟩) (by simp)
  have r1 := hb.cell (p := ⟨w.heap.size + 1, 1, none⟩) (by simp)
  have f0 := hb.frozen (p := ⟨w.heap.size + 1, 0, none⟩) (by simp)
  have f1 := hb.frozen (p := ⟨w.heap.size + 1, 1, none⟩) (by simp)
  simp [go_sem] at r0 r1 f0 f1
  have HB := Lib.hid hb
  clear hb hb1 hb2 hb3
  go_wp2
  refine bodyPost_ret (by simp [results, Try.results28, go_sem, r0, r1]) rfl ⟨_, fin, rfl, ?_⟩
  exact bel_set (bel_set (bel_trans (bel_alloc (bel_alloc (Below.refl _ _) _) _) HB.out) (by simp) _) (by simp) _
end Go.Proofs.Ytbpgallhlfjgjaa
