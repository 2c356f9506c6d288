/-
  Contracts of U192's and U128's Shl, for all words and every shift. Conditions: the fields are words of 64 bits, the shift is an int.
-/
import Derived.Test.YtbpgallhlfjgjaaShiftLaws
import Derived.BigRegion
namespace Go.Proofs.Ytbpgallhlfjgjaa
open Go.RowKit

/-- The number of three words, shifted, modulo 2^192. -/
def shlV (v : Int) (k : Nat) : Int := v * 2 ^ k % 6277101735386680763835789423207666416102355444464034512896

theorem shlV_word (h m l j : Int) (hj : 64 ≤ j) : shlV (V3 m l 0) (j - 64).toNat = shlV (V3 h m l) j.toNat := by
  unfold shlV
  have e : (2 : Int) ^ j.toNat = 18446744073709551616 * 2 ^ (j - 64).toNat := by
    rw [show j.toNat = 64 + (j - 64).toNat by omega, Int.pow_add]
    rfl
  have e2 : V3 h m l * 2 ^ j.toNat = V3 m l 0 * 2 ^ (j - 64).toNat + h * 2 ^ (j - 64).toNat * 6277101735386680763835789423207666416102355444464034512896 := by
    rw [e, ← Int.mul_assoc, show V3 h m l * 18446744073709551616 = V3 m l 0 + h * 6277101735386680763835789423207666416102355444464034512896 by unfold V3; omega, Int.add_mul, Int.mul_right_comm]
  rw [e2, Int.add_mul_emod_self_right]
theorem shlV_big (v : Int) (k : Nat) (hk : 192 ≤ k) : shlV v k = 0 := by
  unfold shlV
  rw [show k = 192 + (k - 192) by omega, Int.pow_add, show (2 : Int) ^ 192 = 6277101735386680763835789423207666416102355444464034512896 by decide, ← Int.mul_assoc, Int.mul_right_comm]
  exact Int.mul_emod_left _ _
theorem toNat_sub64 {j : Int} (h0 : 0 ≤ j) (hj : j < 64) : (64 - j).toNat = 64 - j.toNat := by omega
theorem shl3_eq {h m l j : Int} (w1 : Word h) (w2 : Word m) (w3 : Word l) (hj0 : 0 ≤ j) (hj : j < 64) :
    Is3 (shlV (V3 h m l) j.toNat) (.agg #[.int .u64 (bits BinOp.or IntKind.u64 (IntKind.u64.wrap (h * 2 ^ j.toNat)) (m / 2 ^ (64 - j).toNat)), .int .u64 (bits BinOp.or IntKind.u64 (IntKind.u64.wrap (m * 2 ^ j.toNat)) (l / 2 ^ (64 - j).toNat)), .int .u64 (IntKind.u64.wrap (l * 2 ^ j.toNat))]) := by
  rw [toNat_sub64 hj0 hj]
  have hk : j.toNat ≤ 64 := by omega
  generalize j.toNat = k at *
  have s1 := shr_lt m w2 k hk
  have s2 := shr_lt l w3 k hk
  have e1 := shl_split h k hk
  have e2 := shl_split m k hk
  have e3 := shl_split l k hk
  rw [or_shl h _ w1 s1.1 k hk s1.2, or_shl m _ w2 s2.1 k hk s2.2]
  have b1 := or_lt h k hk
  have b2 := or_lt m k hk
  have b3 := or_lt l k hk
  have hp := pow_pos' k
  have eV : V3 h m l * 2 ^ k = h * 2 ^ k * 340282366920938463463374607431768211456 + m * 2 ^ k * 18446744073709551616 + l * 2 ^ k := by
    unfold V3
    rw [Int.add_mul, Int.add_mul, Int.mul_right_comm, Int.mul_right_comm m]
  generalize IntKind.u64.wrap (h * 2 ^ k) = H at *
  generalize IntKind.u64.wrap (m * 2 ^ k) = M at *
  generalize IntKind.u64.wrap (l * 2 ^ k) = L at *
  generalize m / 2 ^ (64 - k) = mq at *
  generalize l / 2 ^ (64 - k) = lq at *
  generalize h / 2 ^ (64 - k) = hq at *
  generalize h * 2 ^ k = hp' at *
  generalize m * 2 ^ k = mp at *
  generalize l * 2 ^ k = lp at *
  refine ⟨_, _, _, ⟨by omega, by omega⟩, ⟨by omega, by omega⟩, ⟨by omega, by omega⟩, ?_, rfl⟩
  unfold shlV
  rw [eV]
  unfold V3
  omega

set_option maxHeartbeats 3200000 in
theorem shl3_small (ah am al n : Int) (h1 : Word ah) (h2 : Word am) (h3 : Word al) (hn : n < 192) (hn' : -9223372036854775808 ≤ n) (w : World) :
    Calls Try.prog 34 #[.agg #[.int .u64 ah, .int .u64 am, .int .u64 al], .int .i64 n] w (Ret (Is3 (shlV (V3 ah am al) n.toNat)) w) := by
  go_enter Try.func34, Try.ntmps34
  go_wp2
  go_loopw [1] (fun s1 wr => ∃ (j h m l : Int), 0 ≤ j ∧ j < 192 ∧ s1 = .int .i64 j ∧ Word h ∧ Word m ∧ Word l ∧ shlV (V3 h m l) j.toNat = shlV (V3 ah am al) n.toNat ∧ wr = (w.alloc (.cells #[.int .u64 h, .int .u64 m, .int .u64 l] 45)).alloc (.cells #[.int .u64 0, .int .u64 0, .int .u64 0] 45)) (fun s1 _ => (intOf s1).toNat)
  case atStart => exact ⟨max n 0, ah, am, al, by omega, by omega, rfl, h1, h2, h3, by rw [show (max n 0).toNat = n.toNat by omega], rfl⟩
  case round =>
    obtain ⟨j, h, m, l, hj0, hj, rfl, wh, wm, wl, hv, rfl⟩ := hrel
    have HV := Lib.hid hv
    clear hv
    by_cases hc : 64 ≤ j
    · go_wp2
      go_roundw
      case rel => exact ⟨j - 64, m, l, 0, by omega, by omega, rfl, wm, wl, ⟨by decide, by decide⟩, (by rw [← HV.out]; exact shlV_word h m l j hc), rfl⟩
      case measure => simp [intOf]; omega
    · have fin := shl3_eq wh wm wl hj0 (by omega)
      rw [HV.out] at fin
      go_wp2
      go_region
      go_wp2
      refine bodyPost_ret (by simp [results, Try.results34, go_sem]) rfl ⟨_, fin, rfl, ?_⟩
      exact bel_drew (bel_alloc (bel_alloc (Below.refl _ _) _) _)

theorem shl3 (ah am al n : Int) (h1 : Word ah) (h2 : Word am) (h3 : Word al) (hn' : -9223372036854775808 ≤ n) (w : World) :
    Calls Try.prog 34 #[.agg #[.int .u64 ah, .int .u64 am, .int .u64 al], .int .i64 n] w (Ret (Is3 (shlV (V3 ah am al) n.toNat)) w) := by
  by_cases hn : n < 192
  · exact shl3_small ah am al n h1 h2 h3 hn hn' w
  · have fin : Is3 (shlV (V3 ah am al) n.toNat) (.agg #[.int .u64 0, .int .u64 0, .int .u64 0]) := by
      rw [shlV_big _ _ (by omega)]
      exact ⟨0, 0, 0, ⟨by decide, by decide⟩, ⟨by decide, by decide⟩, ⟨by decide, by decide⟩, by decide, rfl⟩
    go_enter Try.func34, Try.ntmps34
    go_wp2
    refine bodyPost_ret (by simp [results, Try.results34, go_sem]) rfl ⟨_, fin, rfl, ?_⟩
    exact bel_alloc (bel_alloc (Below.refl _ _) _) _
end Go.Proofs.Ytbpgallhlfjgjaa
