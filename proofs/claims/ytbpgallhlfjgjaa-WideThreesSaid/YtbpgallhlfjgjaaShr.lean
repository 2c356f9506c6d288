/-
  Contracts of U192's and U128's Shr, for all words and every shift. Conditions: the fields are words of 64 bits, the shift is an int.
-/
import Derived.Test.YtbpgallhlfjgjaaShrLaws
namespace Go.Proofs.Ytbpgallhlfjgjaa
open Go.RowKit

theorem shr_done {h m l j : Int} {lo : Bool} {a : Int} {k : Nat} (w1 : Word h) (w2 : Word m) (w3 : Word l) (hj0 : 0 ≤ j) (hj : j < 64) (hd : V3 h m l / 2 ^ j.toNat = a / 2 ^ k)
    (hm : (lo || decide (V3 h m l % 2 ^ j.toNat ≠ 0)) = decide (a % 2 ^ k ≠ 0)) :
    IsShr3 a k (.tuple #[.agg #[.int .u64 (h / 2 ^ j.toNat), .int .u64 (bits BinOp.or IntKind.u64 (m / 2 ^ j.toNat) (IntKind.u64.wrap (h * 2 ^ (64 - j).toNat))), .int .u64 (bits BinOp.or IntKind.u64 (l / 2 ^ j.toNat) (IntKind.u64.wrap (m * 2 ^ (64 - j).toNat)))], .bool (lo || IntKind.u64.wrap (l * 2 ^ (64 - j).toNat) != 0)]) := by
  rw [toNat_sub64 hj0 hj]
  obtain ⟨⟨h', m', l', g1, g2, g3, g4, rfl, rfl, rfl⟩, g5⟩ := shr3_eq w1 w2 w3 j.toNat (by omega)
  have e : (IntKind.u64.wrap (l * 2 ^ (64 - j.toNat)) != 0) = decide (V3 h m l % 2 ^ j.toNat ≠ 0) := by
    rw [Bool.eq_iff_iff]
    simp only [bne_iff_ne, decide_eq_true_eq]
    exact g5.symm
  rw [e, hm]
  exact ⟨_, _, _, g1, g2, g3, g4.trans hd, rfl⟩

set_option maxHeartbeats 6400000 in
theorem shr3_small (ah am al n : Int) (h1 : Word ah) (h2 : Word am) (h3 : Word al) (hn : n < 192) (hn' : -9223372036854775808 ≤ n) (w : World) :
    Calls Try.prog 29 #[.agg #[.int .u64 ah, .int .u64 am, .int .u64 al], .int .i64 n] w (Ret (IsShr3 (V3 ah am al) n.toNat) w) := by
  have t0 : decide (192 ≤ n) = false := by simp; omega
  go_enter Try.func29, Try.ntmps29
  go_wp2
  go_loopw [1, 6] (fun s1 s6 wr => ∃ (j h m l : Int) (lo : Bool), 0 ≤ j ∧ j < 192 ∧ s1 = .int .i64 j ∧ s6 = .bool lo ∧ Word h ∧ Word m ∧ Word l ∧ V3 h m l / 2 ^ j.toNat = V3 ah am al / 2 ^ n.toNat ∧ (lo || decide (V3 h m l % 2 ^ j.toNat ≠ 0)) = decide (V3 ah am al % 2 ^ n.toNat ≠ 0) ∧ wr = (w.alloc (.cells #[.int .u64 h, .int .u64 m, .int .u64 l] 45)).alloc (.cells #[.int .u64 0, .int .u64 0, .int .u64 0] 45)) (fun s1 _ _ => (intOf s1).toNat)
  case atStart => exact ⟨max n 0, ah, am, al, false, by omega, by omega, rfl, rfl, h1, h2, h3, by rw [show (max n 0).toNat = n.toNat by omega], by rw [show (max n 0).toNat = n.toNat by omega]; rfl, rfl⟩
  case round =>
    obtain ⟨j, h, m, l, lo, hj0, hj, rfl, rfl, wh, wm, wl, hd, hm, rfl⟩ := hrel
    have HD := Lib.hid hd
    have HM := Lib.hid hm
    clear hd hm
    by_cases hc : 64 ≤ j
    · have g := shr_word h m l j wl hc
      have HR : Hid (V3 0 h m / 2 ^ (j - 64).toNat = V3 ah am al / 2 ^ n.toNat) := g.1.trans HD.out
      have HS : Hid (((lo || l != 0) || decide (V3 0 h m % 2 ^ (j - 64).toNat ≠ 0)) = decide (V3 ah am al % 2 ^ n.toNat ≠ 0)) := by
        show _ = _
        rw [← HM.out, Bool.or_assoc]
        congr 1
        rw [Bool.eq_iff_iff]
        simp only [Bool.or_eq_true, bne_iff_ne, decide_eq_true_eq]
        exact g.2.symm
      clear g HD HM
      cases lo
      · go_wp2
        go_roundw
        case rel => exact ⟨j - 64, 0, h, m, _, by omega, by omega, rfl, rfl, ⟨by decide, by decide⟩, wh, wm, HR.out, HS.out, rfl⟩
        case measure => simp [intOf]; omega
      · go_wp2
        go_roundw
        case rel => exact ⟨j - 64, 0, h, m, _, by omega, by omega, rfl, rfl, ⟨by decide, by decide⟩, wh, wm, HR.out, HS.out, rfl⟩
        case measure => simp [intOf]; omega
    · have fin := shr_done wh wm wl hj0 (by omega) HD.out HM.out
      clear HD HM
      cases lo
      · go_wp2
        go_region
        go_wp2
        refine bodyPost_ret (by simp [results, Try.results29, go_sem]) rfl ⟨_, fin, rfl, ?_⟩
        exact bel_drew (bel_alloc (bel_alloc (Below.refl _ _) _) _)
      · go_wp2
        go_region
        go_wp2
        refine bodyPost_ret (by simp [results, Try.results29, go_sem]) rfl ⟨_, fin, rfl, ?_⟩
        exact bel_drew (bel_alloc (bel_alloc (Below.refl _ _) _) _)
end Go.Proofs.Ytbpgallhlfjgjaa
