/-
  The contract of U192's Div, for all words: quotient and what is left; by nought they are noughts. Conditions: the fields are words of 64 bits.
-/
import Derived.Test.YtbpgallhlfjgjaaStep
namespace Go.Proofs.Ytbpgallhlfjgjaa
open Go.RowKit

/-- A quotient of three words, and a number of two words that is left. -/
def IsDiv3 (a b : Int) (v : Value) : Prop := ∃ h m l rh rl : Int, Word h ∧ Word m ∧ Word l ∧ Word rh ∧ Word rl ∧ (b = 0 → h = 0 ∧ m = 0 ∧ l = 0 ∧ rh = 0 ∧ rl = 0) ∧ (0 < b → V2 rh rl < b ∧ V3 h m l * b + V2 rh rl = a) ∧ v = .tuple #[.agg #[.int .u64 h, .int .u64 m, .int .u64 l], .agg #[.int .u64 rh, .int .u64 rl]]

theorem shift_b {bh bl bh' bl' : Int} {s : Nat} (w2 : Word bl) (hs : s ≤ 63) (g1 : 9223372036854775808 ≤ bh * 2 ^ s) (g2 : bh * 2 ^ s < 18446744073709551616) (e : V2 bh' bl' = shlV2 (V2 bh bl) s) :
    V2 bh' bl' = V2 bh bl * 2 ^ s ∧ 170141183460469231731687303715884105728 ≤ V2 bh' bl' := by
  have hp := pow_pos' s
  have e1 : V2 bh bl * 2 ^ s = bh * 2 ^ s * 18446744073709551616 + bl * 2 ^ s := by unfold V2; rw [Int.add_mul, Int.mul_right_comm]
  have hb : (bh + 1) * 2 ^ s ≤ 18446744073709551616 := by
    have := or_lt bh s (by omega)
    have e2 : IntKind.u64.wrap (bh * 2 ^ s) = bh * 2 ^ s := by rw [IntKind.wrap_u64]; exact Int.emod_eq_of_lt (by omega) g2
    rw [e2] at this
    rw [Int.add_mul]
    omega
  have hl : bl * 2 ^ s < 18446744073709551616 * 2 ^ s := Int.mul_lt_mul_of_pos_right w2.2 hp
  have hl0 : 0 ≤ bl * 2 ^ s := Int.mul_nonneg w2.1 (Int.le_of_lt hp)
  rw [Int.add_mul, Int.one_mul] at hb
  unfold shlV2 at e
  rw [e1] at e ⊢
  omega
theorem shift_a {ah am al ah' am' al' : Int} {s : Nat} (w1 : Word ah) (w2 : Word am) (w3 : Word al) (g1 : Word ah') (hs : s ≤ 63) (e : V3 ah' am' al' = shlV (V3 ah am al) s) :
    ah / 2 ^ (64 - s) * 6277101735386680763835789423207666416102355444464034512896 + V3 ah' am' al' = V3 ah am al * 2 ^ s ∧ V2 (ah / 2 ^ (64 - s)) ah' < 170141183460469231731687303715884105728 ∧ Word (ah / 2 ^ (64 - s)) := by
  have s1 := shr_lt ah w1 s (by omega)
  have hp := pow_pos' s
  have hp63 : (2 : Int) ^ s ≤ 9223372036854775808 := by
    have h : 2 ^ s ≤ 2 ^ 63 := Nat.pow_le_pow_right (by decide) hs
    have h2 : ((2 ^ s : Nat) : Int) ≤ ((2 ^ 63 : Nat) : Int) := Int.ofNat_le.2 h
    simpa using h2
  have sp := shl_split ah s (by omega)
  have lt := or_lt ah s (by omega)
  have eV : V3 ah am al * 2 ^ s = ah * 2 ^ s * 340282366920938463463374607431768211456 + am * 2 ^ s * 18446744073709551616 + al * 2 ^ s := by
    unfold V3
    rw [Int.add_mul, Int.add_mul, Int.mul_right_comm, Int.mul_right_comm am]
  have hm : (am * 18446744073709551616 + al) * 2 ^ s < 340282366920938463463374607431768211456 * 2 ^ s := Int.mul_lt_mul_of_pos_right (by have := w2.2; have := w3.2; omega) hp
  have hm0 : 0 ≤ (am * 18446744073709551616 + al) * 2 ^ s := Int.mul_nonneg (by have := w2.1; have := w3.1; omega) (Int.le_of_lt hp)
  rw [Int.add_mul, Int.mul_right_comm] at hm hm0
  refine ⟨?_, ?_, ⟨s1.1, by omega⟩⟩
  · unfold shlV at e
    rw [e, eV]
    generalize IntKind.u64.wrap (ah * 2 ^ s) = W at *
    omega
  · have := g1.2
    unfold V2
    omega
theorem div3_eq {ah am al bh bl t ah' am' al' bh' bl' mid lo r1h r1l r2h r2l rh rl : Int} {s : Nat} (eb : V2 bh' bl' = V2 bh bl * 2 ^ s) (ea : t * 6277101735386680763835789423207666416102355444464034512896 + V3 ah' am' al' = V3 ah am al * 2 ^ s)
    (q1 : mid * V2 bh' bl' + V2 r1h r1l = V3 t ah' am') (q2 : lo * V2 bh' bl' + V2 r2h r2l = V3 r1h r1l al') (l2 : V2 r2h r2l < V2 bh' bl') (er : V2 rh rl = V2 r2h r2l / 2 ^ s) :
    V2 rh rl < V2 bh bl ∧ V3 0 mid lo * V2 bh bl + V2 rh rl = V3 ah am al := by
  have hp := pow_pos' s
  have e1 : V2 r2h r2l = (V3 ah am al - V3 0 mid lo * V2 bh bl) * 2 ^ s := by
    rw [Int.sub_mul, Int.mul_assoc, ← eb, ← ea]
    have k1 : V3 0 mid lo * V2 bh' bl' = mid * V2 bh' bl' * 18446744073709551616 + lo * V2 bh' bl' := by
      unfold V3
      rw [Int.add_mul, Int.add_mul, Int.mul_right_comm mid]
      omega
    rw [k1]
    have k2 : t * 6277101735386680763835789423207666416102355444464034512896 + V3 ah' am' al' = V3 t ah' am' * 18446744073709551616 + al' := by unfold V3; omega
    have k3 : V3 r1h r1l al' = V2 r1h r1l * 18446744073709551616 + al' := by unfold V3 V2; omega
    rw [k2, ← q1]
    rw [k3] at q2
    omega
  have e2 : V2 rh rl = V3 ah am al - V3 0 mid lo * V2 bh bl := by
    rw [er, e1]
    exact Int.mul_ediv_cancel _ (Int.ne_of_gt hp)
  rw [e1, eb] at l2
  have l3 := Int.lt_of_mul_lt_mul_right l2 (Int.le_of_lt hp)
  exact ⟨by omega, by omega⟩

/-- The four blocks that Div begins with. -/
theorem four_blk (w : World) (ah am al bh bl : Int) :
    Blk ((((w.alloc (.cells #[.int .u64 ah, .int .u64 am, .int .u64 al] 45)).alloc (.cells #[.int .u64 bh, .int .u64 bl] 24)).alloc (.cells #[.int .u64 0, .int .u64 0, .int .u64 0] 45)).alloc (.cells #[.int .u64 0, .int .u64 0] 24)) w.heap.size 45 #[.int .u64 ah, .int .u64 am, .int .u64 al] ∧
    Blk ((((w.alloc (.cells #[.int .u64 ah, .int .u64 am, .int .u64 al] 45)).alloc (.cells #[.int .u64 bh, .int .u64 bl] 24)).alloc (.cells #[.int .u64 0, .int .u64 0, .int .u64 0] 45)).alloc (.cells #[.int .u64 0, .int .u64 0] 24)) (w.heap.size + 1) 24 #[.int .u64 bh, .int .u64 bl] ∧
    Blk ((((w.alloc (.cells #[.int .u64 ah, .int .u64 am, .int .u64 al] 45)).alloc (.cells #[.int .u64 bh, .int .u64 bl] 24)).alloc (.cells #[.int .u64 0, .int .u64 0, .int .u64 0] 45)).alloc (.cells #[.int .u64 0, .int .u64 0] 24)) (w.heap.size + 1 + 1) 45 #[.int .u64 0, .int .u64 0, .int .u64 0] ∧
    Blk ((((w.alloc (.cells #[.int .u64 ah, .int .u64 am, .int .u64 al] 45)).alloc (.cells #[.int .u64 bh, .int .u64 bl] 24)).alloc (.cells #[.int .u64 0, .int .u64 0, .int .u64 0] 45)).alloc (.cells #[.int .u64 0, .int .u64 0] 24)) (w.heap.size + 1 + 1 + 1) 24 #[.int .u64 0, .int .u64 0] := by
  refine ⟨(((Blk.new w _ _).alloc _).alloc _).alloc _, ?_, ?_, ?_⟩
  · have := ((Blk.new (w.alloc (.cells #[.int .u64 ah, .int .u64 am, .int .u64 al] 45)) 24 #[.int .u64 bh, .int .u64 bl]).alloc (.cells #[.int .u64 0, .int .u64 0, .int .u64 0] 45)).alloc (.cells #[.int .u64 0, .int .u64 0] 24)
    simpa using this
  · have := (Blk.new ((w.alloc (.cells #[.int .u64 ah, .int .u64 am, .int .u64 al] 45)).alloc (.cells #[.int .u64 bh, .int .u64 bl] 24)) 45 #[.int .u64 0, .int .u64 0, .int .u64 0]).alloc (.cells #[.int .u64 0, .int .u64 0] 24)
    simpa using this
  · have := Blk.new (((w.alloc (.cells #[.int .u64 ah, .int .u64 am, .int .u64 al] 45)).alloc (.cells #[.int .u64 bh, .int .u64 bl] 24)).alloc (.cells #[.int .u64 0, .int .u64 0, .int .u64 0] 45)) 24 #[.int .u64 0, .int .u64 0]
    simpa using this

theorem div3_zero (ah am al : Int) (w : World) : Calls Try.prog 36 #[.agg #[.int .u64 ah, .int .u64 am, .int .u64 al], .agg #[.int .u64 0, .int .u64 0]] w (Ret (IsDiv3 (V3 ah am al) (V2 0 0)) w) := by
  have fin : IsDiv3 (V3 ah am al) (V2 0 0) (.tuple #[.agg #[.int .u64 0, .int .u64 0, .int .u64 0], .agg #[.int .u64 0, .int .u64 0]]) :=
    ⟨0, 0, 0, 0, 0, ⟨by decide, by decide⟩, ⟨by decide, by decide⟩, ⟨by decide, by decide⟩, ⟨by decide, by decide⟩, ⟨by decide, by decide⟩, fun _ => ⟨rfl, rfl, rfl, rfl, rfl⟩, fun h => absurd h (by decide), rfl⟩
  go_enter Try.func36, Try.ntmps36
  go_wp2
  refine bodyPost_ret (by simp [results, Try.results36, go_sem]) rfl ⟨_, fin, rfl, ?_⟩
  exact bel_alloc (bel_alloc (bel_alloc (bel_alloc (Below.refl _ _) _) _) _) _

theorem div3_word (ah am al bl : Int) (h1 : Word ah) (h2 : Word am) (h3 : Word al) (h5 : Word bl) (hb : ¬ bl = 0) (w : World) : Calls Try.prog 36 #[.agg #[.int .u64 ah, .int .u64 am, .int .u64 al], .agg #[.int .u64 0, .int .u64 bl]] w (Ret (IsDiv3 (V3 ah am al) (V2 0 bl)) w) := by
  have hb' : 0 < bl := by have := h5.1; omega
  go_enter Try.func36, Try.ntmps36
  go_wp2_with fail
  refine (divWord _ _ _ _ h1 h2 h3 h5 hb' _).mono ?_
  rintro e w1 ⟨v, ⟨qh, qm, ql, r, a1, a2, a3, a4, a5, a6, rfl⟩, rfl, hb1⟩
  have fin : IsDiv3 (V3 ah am al) (V2 0 bl) (.tuple #[.agg #[.int .u64 qh, .int .u64 qm, .int .u64 ql], .agg #[.int .u64 0, .int .u64 r]]) := by
    have e1 : V2 0 bl = bl := by unfold V2; omega
    have e2 : V2 0 r = r := by unfold V2; omega
    rw [e1]
    exact ⟨_, _, _, 0, r, a1, a2, a3, ⟨by decide, by decide⟩, a4, fun e => absurd e hb, fun _ => by rw [e2]; exact ⟨a5, a6⟩, rfl⟩
  have K4 := (four_blk w ah am al 0 bl).2.2.1.below hb1 (four_blk w ah am al 0 bl).2.2.1.lt
  have K5 := (four_blk w ah am al 0 bl).2.2.2.below hb1 (four_blk w ah am al 0 bl).2.2.2.lt
  have r0 : ∀ o, (w1.alloc o).cell? ⟨w.heap.size + 1 + 1, 0, none⟩ = some (.int .u64 0) := fun o => (K4.alloc o).cell 0
  have r1 : ∀ o, (w1.alloc o).cell? ⟨w.heap.size + 1 + 1, 1, none⟩ = some (.int .u64 0) := fun o => (K4.alloc o).cell 1
  have r2 : ∀ o, (w1.alloc o).cell? ⟨w.heap.size + 1 + 1, 2, none⟩ = some (.int .u64 0) := fun o => (K4.alloc o).cell 2
  have r3 : ∀ o, (w1.alloc o).cell? ⟨w.heap.size + 1 + 1 + 1, 0, none⟩ = some (.int .u64 0) := fun o => (K5.alloc o).cell 0
  have r4 : ∀ o, (w1.alloc o).cell? ⟨w.heap.size + 1 + 1 + 1, 1, none⟩ = some (.int .u64 0) := fun o => (K5.alloc o).cell 1
  have f0 : ∀ o, (w1.alloc o).frozen? ⟨w.heap.size + 1 + 1, 0, none⟩ = false := fun o => (K4.alloc o).frozen 0
  have f1 : ∀ o, (w1.alloc o).frozen? ⟨w.heap.size + 1 + 1, 1, none⟩ = false := fun o => (K4.alloc o).frozen 1
  have f2 : ∀ o, (w1.alloc o).frozen? ⟨w.heap.size + 1 + 1, 2, none⟩ = false := fun o => (K4.alloc o).frozen 2
  have f3 : ∀ o, (w1.alloc o).frozen? ⟨w.heap.size + 1 + 1 + 1, 0, none⟩ = false := fun o => (K5.alloc o).frozen 0
  have f4 : ∀ o, (w1.alloc o).frozen? ⟨w.heap.size + 1 + 1 + 1, 1, none⟩ = false := fun o => (K5.alloc o).frozen 1
  have HB := Lib.hid hb1
  clear hb1 a6 K4 K5
  go_wp2
  refine bodyPost_ret (by simp [results, Try.results36, go_sem, r0, r1, r2, r3, r4]) rfl ⟨_, fin, rfl, ?_⟩
  exact bel_set (bel_set (bel_set (bel_set (bel_set (bel_alloc (bel_trans (bel_alloc (bel_alloc (bel_alloc (bel_alloc (Below.refl _ _) _) _) _) _) HB.out) _) (by simp; omega) _) (by simp; omega) _) (by simp; omega) _) (by simp; omega) _) (by simp; omega) _
end Go.Proofs.Ytbpgallhlfjgjaa
