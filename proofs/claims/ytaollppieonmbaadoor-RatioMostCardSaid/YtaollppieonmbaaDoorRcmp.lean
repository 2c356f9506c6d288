/-
  The contract of the reference's Cmp on rows of bits: how their numbers compare. Conditions: the rows are shorter than 2^40.
-/
import Derived.Test.YtaollppieonmbaaDoorRow
namespace Go.Proofs.YtaollppieonmbaaDoor
open Go.RowKit

theorem getD_tail (xs : List Bool) (j : Nat) : xs.getD (j + 1) false = xs.tail.getD j false := by cases xs <;> rfl
theorem val_tail (xs : List Bool) : val xs = (if xs.getD 0 false then 1 else 0) + 2 * val xs.tail := by cases xs <;> simp [val]
theorem val_zero : ∀ ys : List Bool, (∀ j, ys.getD j false = false) → val ys = 0
  | [], _ => rfl
  | b :: r, h => by
    have h0 := h 0
    have h1 := val_zero r fun j => h (j + 1)
    simp at h0
    simp [val, h0, h1]
theorem val_same : ∀ xs ys : List Bool, (∀ j, xs.getD j false = ys.getD j false) → val xs = val ys
  | [], ys, h => (val_zero ys fun j => (h j).symm).symm
  | b :: r, ys, h => by
    have h0 := h 0
    have h1 := val_same r ys.tail fun j => by rw [← getD_tail]; exact h (j + 1)
    rw [val_tail (b :: r), val_tail ys, ← h0, ← h1]
    rfl
theorem val_diff : ∀ (i : Nat) (xs ys : List Bool), (∀ j, i < j → xs.getD j false = ys.getD j false) → xs.getD i false = true → ys.getD i false = false → val ys < val xs
  | 0, xs, ys, h, hx, hy => by
    have h1 := val_same xs.tail ys.tail fun j => by rw [← getD_tail, ← getD_tail]; exact h (j + 1) (by omega)
    rw [val_tail xs, val_tail ys, hx, hy, h1]
    simp
    omega
  | i + 1, xs, ys, h, hx, hy => by
    have h1 := val_diff i xs.tail ys.tail (fun j hj => by rw [← getD_tail, ← getD_tail]; exact h (j + 1) (by omega)) (by rw [← getD_tail]; exact hx) (by rw [← getD_tail]; exact hy)
    rw [val_tail xs, val_tail ys]
    split <;> split <;> omega
theorem getD_past (xs : List Bool) (j : Nat) (h : xs.length ≤ j) : xs.getD j false = false := by rw [List.getD_eq_getElem?_getD, List.getElem?_eq_none h]; rfl
theorem bitAt_nat (xs : List Bool) (k : Nat) : bitAt xs (k : Int) = xs.getD k false := by simp [bitAt]

theorem rcmp_any (A B : Option Addr) (n m c d : Nat) (xs ys : List Bool) (w : World) (hn : xs.length = n) (hm : ys.length = m) (hx : Rd w A xs) (hy : Rd w B ys) (ln : n ≤ 1099511627776) (lm : m ≤ 1099511627776) :
    Calls Tryd.prog 47 #[.slice A n c, .slice B m d] w fun e w' => e = .returned (.int .i64 (cmpI (val xs) (val ys))) ∧ w = w' := by
  have HN := Lib.hid hn
  have HM := Lib.hid hm
  clear hn hm
  go_enter Tryd.func47, Tryd.ntmps47
  go_wp2_with fail
  go_loop [5] (fun s5 => ∃ k : Nat, s5 = .int .i64 ((k : Int) - 1) ∧ k ≤ 1099511627776 ∧ Hid (∀ j, k ≤ j → xs.getD j false = ys.getD j false)) (fun s5 => (intOf s5 + 1).toNat)
  case atStart =>
    refine ⟨max n m, congrArg (Value.int IntKind.i64) (by omega), by omega, ?_⟩
    show ∀ j, _
    intro j hj
    rw [getD_past xs j (by have := HN.out; omega), getD_past ys j (by have := HM.out; omega)]
  case round =>
    obtain ⟨k, rfl, hk, H⟩ := hrel
    by_cases h0 : k = 0
    · subst h0
      have F : Hid (0 = cmpI (val xs) (val ys)) := by
        show _ = _
        rw [val_same xs ys fun j => H.out j (Nat.zero_le _), cmpI_eq]
      go_wp2_with fail
      go_ret
      exact ⟨ret_int F.out, rfl⟩
    · obtain ⟨i, rfl⟩ : ∃ i, k = i + 1 := ⟨k - 1, by omega⟩
      have e1 : ((i + 1 : Nat) : Int) - 1 = (i : Int) := by omega
      rw [e1]
      clear e1 h0
      have bx := bit_any A n c xs (i : Int) w HN.out hx ln
      have by_ := bit_any B m d ys (i : Int) w HM.out hy lm
      rw [bitAt_nat] at bx by_
      have BX := Lib.hid bx
      have BY := Lib.hid by_
      clear bx by_
      cases ex : xs.getD i false <;> cases ey : ys.getD i false
      · have H2 : Hid (∀ j, i ≤ j → xs.getD j false = ys.getD j false) := fun j hj => by
          rcases Nat.eq_or_lt_of_le hj with e | e
          · subst e; rw [ex, ey]
          · exact H.out j e
        rw [ex] at BX
        rw [ey] at BY
        clear ex ey H
        go_wp2_with fail
        refine BX.out.mono ?_
        rintro e w1 ⟨rfl, rfl⟩
        go_wp2_with fail
        refine BY.out.mono ?_
        rintro e w1 ⟨rfl, rfl⟩
        go_wp2_with fail
        go_round
        case rel => exact ⟨i, rfl, by omega, H2⟩
        case measure => simp [intOf]
      · have F : Hid (-1 = cmpI (val xs) (val ys)) := by
          show _ = _
          rw [cmpI_lt (val_diff i ys xs (fun j hj => (H.out j hj).symm) ey ex)]
        rw [ex] at BX
        rw [ey] at BY
        clear ex ey H
        go_wp2_with fail
        refine BX.out.mono ?_
        rintro e w1 ⟨rfl, rfl⟩
        go_wp2_with fail
        refine BY.out.mono ?_
        rintro e w1 ⟨rfl, rfl⟩
        go_wp2_with fail
        go_ret
        exact ⟨ret_int F.out, rfl⟩
      · have F : Hid (1 = cmpI (val xs) (val ys)) := by
          show _ = _
          rw [cmpI_gt (val_diff i xs ys (fun j hj => H.out j hj) ex ey)]
        rw [ex] at BX
        rw [ey] at BY
        clear ex ey H
        go_wp2_with fail
        refine BX.out.mono ?_
        rintro e w1 ⟨rfl, rfl⟩
        go_wp2_with fail
        refine BY.out.mono ?_
        rintro e w1 ⟨rfl, rfl⟩
        go_wp2_with fail
        go_ret
        exact ⟨ret_int F.out, rfl⟩
      · have H2 : Hid (∀ j, i ≤ j → xs.getD j false = ys.getD j false) := fun j hj => by
          rcases Nat.eq_or_lt_of_le hj with e | e
          · subst e; rw [ex, ey]
          · exact H.out j e
        rw [ex] at BX
        rw [ey] at BY
        clear ex ey H
        go_wp2_with fail
        refine BX.out.mono ?_
        rintro e w1 ⟨rfl, rfl⟩
        go_wp2_with fail
        refine BY.out.mono ?_
        rintro e w1 ⟨rfl, rfl⟩
        go_wp2_with fail
        go_round
        case rel => exact ⟨i, rfl, by omega, H2⟩
        case measure => simp [intOf]
end Go.Proofs.YtaollppieonmbaaDoor
