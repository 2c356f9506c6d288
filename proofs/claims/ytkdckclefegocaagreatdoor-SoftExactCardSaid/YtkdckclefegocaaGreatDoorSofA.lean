/-
  Contracts of soft's small functions (hasNaN, isInfinite, isZero, isNegative, zero, invalid, shift, take, widest), and of its reference's (is, neg, inf, zero, bits). Conditions: floats are words.
-/
import Derived.Test.YtkdckclefegocaaGreatDoorMHa
import Derived.Test.YtkdckclefegocaaGreatDoorMW2
import Derived.Test.YtkdckclefegocaaGreatDoorPatd
namespace Go.Proofs.YtkdckclefegocaaGreatDoor
open Go.RowKit
set_option maxRecDepth 100000

theorem nanf_any (f : Int) (hf : Word f) (w : World) : Calls Tryz.prog 54 #[.int .u64 f] w fun x w' => x = .returned (.bool (decide (fC f = 4))) ∧ w = w' := by
  go_enter Tryz.func54, Tryz.ntmps54
  go_wp2_with fail
  refine (class_any f hf _).mono ?_
  rintro e w1 ⟨rfl, rfl⟩
  go_wp2_with fail
  go_ret
  refine ⟨ret_bool ?_, rfl⟩
  rw [Bool.eq_iff_iff]
  simp

set_option maxHeartbeats 2000000 in
theorem index6_any (A : Option Addr) (n c : Nat) (fs : List Int) (w : World) (hn : fs.length = n) (hr : RdW w A fs) (hf : AllF fs) (h2 : n ≤ 1000) :
    Calls Tryz.prog 88 #[.slice A n c, .func (.func 54) #[] #[]] w fun e w' => (∃ r : Int, e = .returned (.int .i64 r) ∧ decide (0 ≤ r) = anyN fs) ∧ Below w.heap.size w w' := by
  have HN := Lib.hid hn
  clear hn
  go_enter Tryz.func88, Tryz.ntmps88
  go_wp2_with fail
  go_loopw [8] (fun s8 wr => ∃ i : Nat, s8 = .int .i64 (i : Int) ∧ i ≤ n ∧ Hid (∀ j, j < i → fC (fs.getD j 0) ≠ 4) ∧ Hid (Below w.heap.size w wr)) (fun s8 _ => n - (intOf s8).toNat)
  case atStart => exact ⟨0, rfl, Nat.zero_le _, fun j hj => by omega, Below.refl _ _⟩
  case round =>
    obtain ⟨i, rfl, hi, H, HB⟩ := hrel
    by_cases hlt : i < n
    · obtain ⟨g, off, rfl, hg, hc1⟩ := (hr.belowS HB.out).at_ (i := i) (by rw [HN.out]; exact hlt)
      have hx := hf i (by rw [HN.out]; exact hlt)
      have hl1 : (i : Int) < (n : Int) := by omega
      by_cases h4 : fC (fs.getD i 0) = 4
      · have F : Hid (true = anyN fs) := (anyN_true (by rw [HN.out]; exact hlt) h4).symm
        generalize fs.getD i 0 = x at *
        clear H
        go_wp2_with fail
        refine (nanf_any x hx _).mono ?_
        rw [decide_eq_true h4]
        rintro e w1 ⟨rfl, rfl⟩
        go_wp2_with fail
        go_ret
        exact ⟨⟨i, rfl, by rw [← F.out]; exact decide_eq_true (by omega)⟩, by first | exact HB.out | exact bel_drewN HB.out _⟩
      · have H2 : Hid (∀ j, j < i + 1 → fC (fs.getD j 0) ≠ 4) := fun j hj => by
          rcases Nat.lt_or_ge j i with h | h
          · exact H.out j h
          · obtain rfl : j = i := by omega
            exact h4
        generalize fs.getD i 0 = x at *
        clear H
        go_wp2_with fail
        refine (nanf_any x hx _).mono ?_
        rw [decide_eq_false h4]
        rintro e w1 ⟨rfl, rfl⟩
        go_wp2_with fail
        go_roundw
        case rel => exact ⟨i + 1, by go_num, by omega, H2, by first | exact HB.out | exact bel_drewN HB.out _⟩
        case measure => simp [intOf]; omega
    · obtain rfl : i = n := by omega
      have F : Hid (false = anyN fs) := (anyN_false fun j hj => H.out j (by rw [← HN.out]; exact hj)).symm
      go_wp2_with fail
      go_ret
      exact ⟨⟨-1, rfl, by rw [← F.out]; rfl⟩, HB.out⟩
theorem contains6_any (A : Option Addr) (n c : Nat) (fs : List Int) (w : World) (hn : fs.length = n) (hr : RdW w A fs) (hf : AllF fs) (h2 : n ≤ 1000) :
    Calls Tryz.prog 53 #[.slice A n c, .func (.func 54) #[] #[]] w fun e w' => e = .returned (.bool (anyN fs)) ∧ Below w.heap.size w w' := by
  go_enter Tryz.func53, Tryz.ntmps53
  go_wp2_with fail
  refine (index6_any A n c fs _ hn hr hf h2).mono ?_
  rintro e w1 ⟨⟨r, rfl, hr⟩, hb⟩
  go_wp2_with fail
  go_ret
  exact ⟨rfl, hb⟩


set_option maxHeartbeats 1000000 in
theorem hasnan_any (A : Option Addr) (n c : Nat) (fs : List Int) (w : World) (hn : fs.length = n) (hr : RdW w A fs) (hf : AllF fs) (h2 : n ≤ 1000) :
    Calls Tryz.prog 25 #[.slice A n c] w fun e w' => e = .returned (.bool (anyN fs)) ∧ Below w.heap.size w w' := by
  go_enter Tryz.func25, Tryz.ntmps25
  go_wp2_with fail
  refine (contains6_any A n c fs _ hn hr hf h2).mono ?_
  rintro e w1 ⟨rfl, hb⟩
  go_wp2_with fail
  go_ret
  exact ⟨rfl, hb⟩
theorem any1 (a : Int) : anyN [a] = decide (fC a = 4) := by simp [anyN]
theorem any2 (a b : Int) : anyN [a, b] = (decide (fC a = 4) || decide (fC b = 4)) := by
  unfold anyN
  rw [show List.range [a, b].length = [0, 1] from rfl]
  simp
theorem all1 {a : Int} (h : Word a) : AllF [a] := fun i hi => by
  simp at hi
  subst hi
  exact h
theorem all2 {a b : Int} (h : Word a) (k : Word b) : AllF [a, b] := fun i hi => by
  rcases i with _ | _ | i
  · exact h
  · exact k
  · simp at hi; omega
theorem rdw1 (W : World) (t : TypeId) (a : Int) : RdW (W.alloc (.cells #[.int .u64 a] t)) (some ⟨W.heap.size, 0, none⟩) [a] := by
  refine .inr ⟨_, 0, rfl, by simp, fun j v hj => ?_⟩
  rcases j with _ | j
  · simp at hj; subst hj; simp [go_sem]
  · simp at hj
theorem rdw2 (W : World) (t : TypeId) (a b : Int) : RdW (W.alloc (.cells #[.int .u64 a, .int .u64 b] t)) (some ⟨W.heap.size, 0, none⟩) [a, b] := by
  refine .inr ⟨_, 0, rfl, by simp, fun j v hj => ?_⟩
  rcases j with _ | _ | j
  · simp at hj; subst hj; simp [go_sem]
  · simp at hj; subst hj; simp [go_sem]
  · simp at hj
/-- hasNaN of one float, of two. -/
theorem nan1 {a : Int} (ha : Word a) (w : World) (t : TypeId) (c : Nat) : Calls Tryz.prog 25 #[.slice (some ⟨w.heap.size, 0, none⟩) 1 c] (w.alloc (.cells #[.int .u64 a] t)) fun e w' => e = .returned (.bool (decide (fC a = 4))) ∧ Below (w.alloc (.cells #[.int .u64 a] t)).heap.size (w.alloc (.cells #[.int .u64 a] t)) w' := by
  have h := hasnan_any _ 1 c [a] _ rfl (rdw1 w t a) (all1 ha) (by decide)
  rw [any1] at h
  exact h
theorem nan2 {a b : Int} (ha : Word a) (hb : Word b) (w : World) (t : TypeId) (c : Nat) : Calls Tryz.prog 25 #[.slice (some ⟨w.heap.size, 0, none⟩) 2 c] (w.alloc (.cells #[.int .u64 a, .int .u64 b] t)) fun e w' => e = .returned (.bool (decide (fC a = 4) || decide (fC b = 4))) ∧ Below (w.alloc (.cells #[.int .u64 a, .int .u64 b] t)).heap.size (w.alloc (.cells #[.int .u64 a, .int .u64 b] t)) w' := by
  have h := hasnan_any _ 2 c [a, b] _ rfl (rdw2 w t a b) (all2 ha hb) (by decide)
  rw [any2] at h
  exact h

theorem sinf_any (f : Int) (hf : Word f) (w : World) : Calls Tryz.prog 26 #[.int .u64 f] w fun x w' => x = .returned (.bool (decide (fC f = 3))) ∧ w = w' := by
  go_enter Tryz.func26, Tryz.ntmps26
  go_wp2_with fail
  refine (class_any f hf _).mono ?_
  rintro e w1 ⟨rfl, rfl⟩
  go_wp2_with fail
  go_ret
  refine ⟨ret_bool ?_, rfl⟩
  rw [Bool.eq_iff_iff]
  simp
theorem szero_any (f : Int) (hf : Word f) (w : World) : Calls Tryz.prog 32 #[.int .u64 f] w fun x w' => x = .returned (.bool (decide (fC f = 0))) ∧ w = w' := by
  go_enter Tryz.func32, Tryz.ntmps32
  go_wp2_with fail
  refine (class_any f hf _).mono ?_
  rintro e w1 ⟨rfl, rfl⟩
  go_wp2_with fail
  go_ret
  refine ⟨ret_bool ?_, rfl⟩
  rw [Bool.eq_iff_iff]
  simp
theorem sneg_any (f : Int) (hf : Word f) (w : World) : Calls Tryz.prog 31 #[.int .u64 f] w fun x w' => x = .returned (.bool (fS f)) ∧ w = w' := by
  go_enter Tryz.func31, Tryz.ntmps31
  go_wp2_with fail
  refine (parts_any f hf _).mono ?_
  rintro e w1 ⟨rfl, rfl⟩
  go_wp2_with fail
  go_ret
  exact ⟨rfl, rfl⟩
theorem sz_any (s : Bool) (w : World) : Calls Tryz.prog 29 #[.bool s] w fun x w' => x = .returned (.int .u64 (sg s)) ∧ w = w' := by
  go_enter Tryz.func29, Tryz.ntmps29
  go_wp2_with fail
  refine (make_good s 0 0 ⟨by decide, by decide⟩ (by decide) _).mono ?_
  rw [show mkF s 0 0 = sg s by unfold mkF; omega]
  rintro e w1 ⟨rfl, rfl⟩
  go_wp2_with fail
  go_ret
  exact ⟨rfl, rfl⟩
theorem invalid_any (w : World) : Calls Tryz.prog 28 #[] w fun x w' => x = .returned (.tuple #[.int .u64 9221120237041090560, .int .u8 16]) ∧ w = w' := by
  go_enter Tryz.func28, Tryz.ntmps28
  go_wp2_with fail
  refine (quiet_f _).mono ?_
  rintro e w1 ⟨rfl, rfl⟩
  go_wp2_with fail
  go_ret2
  exact ⟨rfl, rfl⟩

end Go.Proofs.YtkdckclefegocaaGreatDoor
