/-
  The contract of the reference's Len on rows of bits: the number of bits of the row's number. Conditions: the row is shorter than 2^40.
-/
import Derived.Test.YtaollppieonmbaaDoorRcmp
namespace Go.Proofs.YtaollppieonmbaaDoor
open Go.RowKit

theorem blen_eq {v : Int} {k : Nat} (hk : 1 ≤ k) (h0 : (2 : Int) ^ (k - 1) ≤ v) (h1 : v < 2 ^ k) : blen v = k := by
  have hp := pow_pos' (k - 1)
  have hv : 0 ≤ v := by omega
  obtain ⟨n, en, lt, ge, _⟩ := blen_spec hv
  obtain ⟨g1, g2⟩ := ge (by omega)
  rw [en]
  rcases Nat.lt_trichotomy n k with h | h | h
  · exfalso
    have : (2 : Int) ^ n ≤ 2 ^ (k - 1) := by
      have h3 : 2 ^ n ≤ 2 ^ (k - 1) := Nat.pow_le_pow_right (by decide) (by omega)
      have h4 : ((2 ^ n : Nat) : Int) ≤ ((2 ^ (k - 1) : Nat) : Int) := Int.ofNat_le.2 h3
      simpa using h4
    omega
  · rw [h]
  · exfalso
    have : (2 : Int) ^ k ≤ 2 ^ (n - 1) := by
      have h3 : 2 ^ k ≤ 2 ^ (n - 1) := Nat.pow_le_pow_right (by decide) (by omega)
      have h4 : ((2 ^ k : Nat) : Int) ≤ ((2 ^ (n - 1) : Nat) : Int) := Int.ofNat_le.2 h3
      simpa using h4
    omega
theorem getD_drop (xs : List Bool) (k j : Nat) : (xs.drop k).getD j false = xs.getD (k + j) false := by
  rw [List.getD_eq_getElem?_getD, List.getD_eq_getElem?_getD, List.getElem?_drop]
theorem val_high {xs : List Bool} {k : Nat} (hk : k ≤ xs.length) (h : ∀ j, k ≤ j → xs.getD j false = false) : val xs = val (xs.take k) := by
  rw [val_take_drop xs k hk, val_zero (xs.drop k) fun j => by rw [getD_drop]; exact h _ (by omega)]
  simp
theorem len_top {xs : List Bool} {k : Nat} (hk : k + 1 ≤ xs.length) (h : ∀ j, k + 1 ≤ j → xs.getD j false = false) (hb : xs.getD k false = true) : blen (val xs) = ((k + 1 : Nat) : Int) := by
  refine blen_eq (by omega) ?_ ?_
  · have e0 : (xs.drop k).getD 0 false = true := by rw [getD_drop]; exact hb
    rw [val_take_drop xs k (by omega), val_tail (xs.drop k), e0]
    have h0 := val_nonneg (xs.take k)
    have h1 := val_nonneg (xs.drop k).tail
    have hp := pow_pos' k
    have h2 : (2 : Int) ^ k * 1 ≤ 2 ^ k * ((if true = true then 1 else 0) + 2 * val (xs.drop k).tail) := Int.mul_le_mul_of_nonneg_left (by rw [if_pos rfl]; omega) (Int.le_of_lt hp)
    rw [show k + 1 - 1 = k by omega]
    omega
  · rw [val_high hk h]
    have := val_lt (xs.take (k + 1))
    rw [List.length_take, Nat.min_eq_left hk] at this
    exact this

theorem rlen_any (A : Option Addr) (n c : Nat) (xs : List Bool) (w : World) (hn : xs.length = n) (hx : Rd w A xs) (ln : n ≤ 1099511627776) :
    Calls Tryd.prog 29 #[.slice A n c] w fun e w' => e = .returned (.int .i64 (blen (val xs))) ∧ w = w' := by
  have HN := Lib.hid hn
  clear hn
  go_enter Tryd.func29, Tryd.ntmps29
  go_wp2_with fail
  go_loop [3] (fun s3 => ∃ k : Nat, s3 = .int .i64 (k : Int) ∧ k ≤ n ∧ Hid (∀ j, k ≤ j → xs.getD j false = false)) (fun s3 => (intOf s3).toNat)
  case atStart => exact ⟨n, rfl, Nat.le_refl _, fun j hj => getD_past xs j (by have := HN.out; omega)⟩
  case round =>
    obtain ⟨k, rfl, hk, H⟩ := hrel
    by_cases h0 : k = 0
    · subst h0
      have F : Hid (0 = blen (val xs)) := by
        show _ = _
        rw [val_zero xs fun j => H.out j (Nat.zero_le _)]
        rfl
      go_wp2_with fail
      go_ret
      exact ⟨ret_int F.out, rfl⟩
    · obtain ⟨i, rfl⟩ : ∃ i, k = i + 1 := ⟨k - 1, by omega⟩
      clear h0
      obtain ⟨g, off, rfl, hg, hcell⟩ := hx.at_ (i := i) (by have := HN.out; omega)
      have e1 : ((i + 1 : Nat) : Int) = (i : Int) + 1 := by omega
      have hi1 : (i : Int) < (n : Int) := by omega
      cases ex : xs.getD i false
      · have H2 : Hid (∀ j, i ≤ j → xs.getD j false = false) := fun j hj => by
          rcases Nat.eq_or_lt_of_le hj with e | e
          · subst e; exact ex
          · exact H.out j e
        rw [ex] at hcell
        rw [e1]
        clear ex H e1
        go_wp2_with fail
        go_round
        case rel => exact ⟨i, by go_num, by omega, H2⟩
        case measure => simp [intOf]
      · have F : Hid (((i : Int) + 1) = blen (val xs)) := by
          show _ = _
          rw [len_top (by have := HN.out; omega) H.out ex]
          omega
        rw [ex] at hcell
        rw [e1]
        clear ex H e1
        go_wp2_with fail
        go_ret
        exact ⟨ret_int F.out, rfl⟩
end Go.Proofs.YtaollppieonmbaaDoor
