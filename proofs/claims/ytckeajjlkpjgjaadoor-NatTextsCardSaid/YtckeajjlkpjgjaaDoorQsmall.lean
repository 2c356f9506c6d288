/-
  The contract of layer 2's helper 'small', and what bounds numbers. Conditions: none.
-/
import Derived.Test.YtckeajjlkpjgjaaDoorQworks
import Derived.Test.YtckeajjlkpjgjaaDoorRdiv
namespace Go.Proofs.YtckeajjlkpjgjaaDoor
open Go.RowKit

/-- Are the slices short enough? -/
def smallB (ls : List (Option Addr × Nat × Nat)) : Bool := ls.all fun p => decide (p.2.1 ≤ 24)
theorem small_any (g k : Nat) (ls : List (Option Addr × Nat × Nat)) (hl : ls.length = k) (hk : k ≤ 100) (w : World) (_hg : g < w.heap.size)
    (hc : ∀ i p, ls[i]? = some p → w.cell? ⟨g, i, none⟩ = some (.slice p.1 p.2.1 p.2.2)) :
    Calls Tryd.prog 11 #[.slice (some ⟨g, 0, none⟩) k k] w fun e w' => e = .returned (.bool (smallB ls)) ∧ w = w' := by
  have HL := Lib.hid hl
  have HC := Lib.hid hc
  obtain ⟨b, hb⟩ : ∃ b, smallB ls = b := ⟨_, rfl⟩
  rw [hb]
  have HB := Lib.hid hb
  clear hl hc hb
  go_enter Tryd.func11, Tryd.ntmps11
  go_wp2_with fail
  go_loop [3] (fun s3 => ∃ i : Nat, s3 = .int .i64 (i : Int) ∧ i ≤ k ∧ Hid (smallB (ls.take i) = true)) (fun s3 => k - (intOf s3).toNat)
  case atStart => exact ⟨0, rfl, Nat.zero_le _, by show _ = _; simp [smallB]⟩
  case round =>
    obtain ⟨i, rfl, hi, H⟩ := hrel
    by_cases hlt : i < k
    · have hlt' : i < ls.length := by rw [HL.out]; exact hlt
      have hp : ls[i]? = some ls[i] := List.getElem?_eq_getElem hlt'
      have hts := List.take_succ_eq_append_getElem hlt'
      have hmem : ls[i] ∈ ls := List.getElem_mem hlt'
      have hcell := HC.out i _ hp
      generalize ls[i] = p at *
      obtain ⟨A, n, c⟩ := p
      have hl1 : (i : Int) < (k : Int) := by omega
      by_cases hn : n ≤ 24
      · have H2 : Hid (smallB (ls.take (i + 1)) = true) := by
          show _ = _
          rw [hts]
          have := H.out
          unfold smallB at this ⊢
          rw [List.all_append, this]
          simp [hn]
        have hd : decide ((24 : Int) < (n : Int)) = false := decide_eq_false (by omega)
        clear hp hts hmem H
        go_wp2_with fail
        go_round
        case rel => exact ⟨i + 1, by go_num, by omega, H2⟩
        case measure => simp [intOf]; omega
      · have F : Hid (false = b) := by
          show _ = _
          rw [← HB.out]
          symm
          unfold smallB
          rw [List.all_eq_false]
          exact ⟨_, hmem, by simp; omega⟩
        have hd : decide ((24 : Int) < (n : Int)) = true := decide_eq_true (by omega)
        clear hp hts hmem H
        go_wp2_with fail
        go_ret
        exact ⟨ret_bool F.out, rfl⟩
    · have F : Hid (true = b) := by
        show _ = _
        rw [← HB.out]
        have := H.out
        rw [List.take_of_length_le (by rw [HL.out]; omega)] at this
        exact this.symm
      go_wp2_with fail
      go_ret
      exact ⟨ret_bool F.out, rfl⟩

theorem add_bd {x y : Int} {a b c : Nat} (h1 : x < 2 ^ (32 * a)) (h2 : y < 2 ^ (32 * b)) (h3 : a < c) (h4 : b < c) : x + y < 2 ^ (32 * c) := by
  have l1 := pow_mono (32 * a) (32 * (c - 1)) (by omega)
  have l2 := pow_mono (32 * b) (32 * (c - 1)) (by omega)
  have l3 := pow32 (c - 1)
  rw [show c - 1 + 1 = c by omega] at l3
  have := pow_pos' (32 * (c - 1))
  omega
theorem mul_bd {x y : Int} {a b c : Nat} (h0 : 0 ≤ x) (h1 : x < 2 ^ (32 * a)) (h2 : y < 2 ^ (32 * b)) (h3 : a + b = c) : x * y < 2 ^ (32 * c) := by
  subst h3
  rw [pow_off]
  have a1 : x * y ≤ x * 2 ^ (32 * b) := Int.mul_le_mul_of_nonneg_left (by omega) h0
  have a2 : x * 2 ^ (32 * b) < 2 ^ (32 * a) * 2 ^ (32 * b) := Int.mul_lt_mul_of_pos_right h1 (pow_pos' _)
  omega
/-- What is known of a number that was handed in: at most 24 words. -/
theorem in_bd {us : List Int} {n : Nat} (hu : AllW us) (hn : us.length = n) (h : n ≤ 24) (B : Nat) (hB : 24 ≤ B) : nv us < 2 ^ (32 * B) := by
  have := nv_lt us hu
  rw [hn] at this
  have := pow_mono (32 * n) (32 * B) (by omega)
  omega
/-- Of a row of a number's bits. -/
theorem IsBitsOf.le {v : Int} {xs : List Bool} {B : Nat} (h : IsBitsOf v xs) (h0 : 0 ≤ v) (h1 : v < 2 ^ B) : xs.length ≤ B := by
  have := (blen_bd h0 h1).2
  have := h.len
  omega
end Go.Proofs.YtckeajjlkpjgjaaDoor
