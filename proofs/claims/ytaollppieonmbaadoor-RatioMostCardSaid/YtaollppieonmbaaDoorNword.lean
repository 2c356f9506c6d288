/-
  Contracts of nat's trim and word: the words without noughts at the end, and one word, nought beyond the end. Conditions: fewer than 2^40 words.
-/
import Derived.Test.YtaollppieonmbaaDoorNbits
namespace Go.Proofs.YtaollppieonmbaaDoor
open Go.RowKit

theorem word_any (A : Option Addr) (n c : Nat) (ws : List Int) (i : Nat) (w : World) (hn : ws.length = n) (hr : Rn w A ws) (_ln : n ≤ 1099511627776) (_hi : i ≤ 9223372036854775807) :
    Calls Tryd.prog 78 #[.slice A n c, .int .i64 (i : Int)] w fun e w' => e = .returned (.int .u32 (ws.getD i 0)) ∧ w = w' := by
  have HN := Lib.hid hn
  by_cases hk : i < n
  · obtain ⟨g, off, rfl, hg, hcell⟩ := hr.at_ (i := i) (by omega)
    generalize ws.getD i 0 = x at *
    clear hn hr
    have hk1 : (i : Int) < (n : Int) := by omega
    have hk2 : decide ((n : Int) ≤ (i : Int)) = false := by simp; omega
    go_enter Tryd.func78, Tryd.ntmps78
    go_wp2
    go_ret
    exact ⟨rfl, rfl⟩
  · rw [getD0_past ws i (by omega)]
    have hk2 : decide ((n : Int) ≤ (i : Int)) = true := by simp; omega
    clear hn hr
    go_enter Tryd.func78, Tryd.ntmps78
    go_wp2
    go_ret
    exact ⟨rfl, rfl⟩

/-- Words without noughts at the end, m of them. -/
structure TrimOf (ws us : List Int) (m : Nat) : Prop where
  eq : us = ws.take (tlen ws)
  len : us.length = m
theorem TrimOf.nat {ws us : List Int} {m : Nat} (h : TrimOf ws us m) (ha : AllW ws) : IsNat (nv ws) us := by rw [h.eq]; exact IsNat.of_trim ha
theorem TrimOf.le {ws us : List Int} {m n : Nat} (h : TrimOf ws us m) (hn : ws.length = n) : m ≤ n := by
  rw [← h.len, h.eq, length_trim, ← hn]
  exact tlen_le ws
theorem TrimOf.tl {ws us : List Int} {m : Nat} (h : TrimOf ws us m) : tlen us = m := by rw [← h.len, h.eq, tlen_trim, length_trim]
theorem TrimOf.getD {ws us : List Int} {m : Nat} (h : TrimOf ws us m) (j : Nat) : us.getD j 0 = ws.getD j 0 := by
  rw [h.eq, getD0_take]
  split
  · rfl
  · exact (tlen_high ws j (by omega)).symm
/-- What trim hands back. -/
def IsTrim (ws : List Int) (A : Option Addr) (w : World) (e : Ending) (w' : World) : Prop :=
  ∃ (us : List Int) (A' : Option Addr) (m c' : Nat), TrimOf ws us m ∧ e = .returned (.slice A' m c') ∧ m ≤ c' ∧ Rn w A' us ∧ (∀ a, A' = some a → A = some a) ∧ w = w'

theorem trim_any (A : Option Addr) (n c : Nat) (ws : List Int) (w : World) (hn : ws.length = n) (hc : n ≤ c) (hr : Rn w A ws) (ln : n ≤ 1099511627776) :
    Calls Tryd.prog 61 #[.slice A n c] w (IsTrim ws A w) := by
  have HN := Lib.hid hn
  clear hn
  go_enter Tryd.func61, Tryd.ntmps61
  go_wp2_with fail
  go_loop [7] (fun s7 => ∃ k : Nat, s7 = .int .i64 (k : Int) ∧ k ≤ n ∧ Hid (∀ j, n - k ≤ j → ws.getD j 0 = 0)) (fun s7 => n - (intOf s7).toNat)
  case atStart => exact ⟨0, rfl, Nat.zero_le _, fun j hj => getD0_past ws j (by have := HN.out; omega)⟩
  case round =>
    obtain ⟨k, rfl, hk, H⟩ := hrel
    by_cases hlt : k < n
    · obtain ⟨i, hi⟩ : ∃ i, n - k = i + 1 := ⟨n - k - 1, by omega⟩
      obtain ⟨g, off, rfl, hg, hcell⟩ := hr.at_ (i := i) (by have := HN.out; omega)
      have e1 : (n : Int) - (k : Int) = (i : Int) + 1 := by omega
      have hi1 : (i : Int) < (n : Int) := by omega
      have hi2 : (i : Int) + 1 ≤ (c : Int) := by omega
      by_cases ex : ws.getD i 0 = 0
      · have H2 : Hid (∀ j, n - (k + 1) ≤ j → ws.getD j 0 = 0) := fun j hj => by
          rcases Nat.eq_or_lt_of_le (show i ≤ j by omega) with e | e
          · subst e; exact ex
          · exact H.out j (by omega)
        rw [ex] at hcell
        clear ex H hi
        go_wp2_with fail
        go_round
        case rel => exact ⟨k + 1, by go_num, by omega, H2⟩
        case measure => simp [intOf]; omega
      · have F : Hid (tlen ws = i + 1) := by
          show _ = _
          refine tlen_eq (fun j hj => H.out j (by omega)) fun _ => ?_
          simpa using ex
        have ex2 : (ws.getD i 0 != 0) = true := by simpa using ex
        generalize ws.getD i 0 = x at *
        clear ex H hi
        go_wp2_with fail
        go_ret
        refine ⟨ws.take (i + 1), some ⟨g, off, none⟩, i + 1, c, ⟨by rw [F.out], ?_⟩, by go_num, by omega, hr.take _, fun a h => h, rfl⟩
        rw [List.length_take, HN.out]
        omega
    · have F : Hid (tlen ws = 0) := tlen_eq (fun j hj => H.out j (by omega)) fun h => by omega
      clear H
      go_wp2_with fail
      go_ret
      exact ⟨[], none, 0, 0, ⟨by rw [F.out]; simp, rfl⟩, rfl, Nat.le_refl _, .inl rfl, (fun a h => by cases h), rfl⟩
end Go.Proofs.YtaollppieonmbaaDoor
