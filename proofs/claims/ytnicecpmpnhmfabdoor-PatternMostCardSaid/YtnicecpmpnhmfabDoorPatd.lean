/-
  Contracts of layer 4's greatest and least float. Conditions: at most 1000 floats, each a word.
-/
import Derived.Test.YtnicecpmpnhmfabDoorPatc
import Derived.Test.YtnicecpmpnhmfabDoorMR
namespace Go.Proofs.YtnicecpmpnhmfabDoor
open Go.RowKit
set_option maxRecDepth 100000

theorem RdW.belowS {w w' : World} {A : Option Addr} {xs : List Int} (h : RdW w A xs) (hb : Below w.heap.size w w') : RdW w' A xs := by
  rcases h with h | ⟨g, off, ha, hg, hc⟩
  · exact .inl h
  · exact .inr ⟨g, off, ha, Nat.lt_of_lt_of_le hg hb.size, fun i x hi => (hb.cell hg).trans (hc i x hi)⟩
theorem RdW.at_ {w : World} {A : Option Addr} {xs : List Int} (h : RdW w A xs) {i : Nat} (hi : i < xs.length) : ∃ g off, A = some ⟨g, off, none⟩ ∧ g < w.heap.size ∧ w.cell? ⟨g, off + i, none⟩ = some (.int .u64 (xs.getD i 0)) := by
  rcases h with h | ⟨g, off, ha, hg, hc⟩
  · subst h; simp at hi
  · exact ⟨g, off, ha, hg, hc i _ (by rw [List.getD_eq_getElem?_getD, List.getElem?_eq_getElem hi]; rfl)⟩
/-- Floats, each a word. -/
def AllF (fs : List Int) : Prop := ∀ i, i < fs.length → Word (fs.getD i 0)
def anyN (fs : List Int) : Bool := (List.range fs.length).any fun i => decide (fC (fs.getD i 0) = 4)
theorem anyN_true {fs : List Int} {i : Nat} (hi : i < fs.length) (h : fC (fs.getD i 0) = 4) : anyN fs = true := by
  unfold anyN
  rw [List.any_eq_true]
  exact ⟨i, List.mem_range.2 hi, decide_eq_true h⟩
theorem anyN_false {fs : List Int} (h : ∀ i, i < fs.length → fC (fs.getD i 0) ≠ 4) : anyN fs = false := by
  unfold anyN
  rw [List.any_eq_false]
  intro i hi
  simp only [decide_eq_true_eq]
  exact h i (List.mem_range.1 hi)
theorem anyN_no {fs : List Int} (h : anyN fs = false) : ∀ i, i < fs.length → fC (fs.getD i 0) ≠ 4 := fun i hi k => by
  rw [anyN_true hi k] at h
  cases h

set_option maxHeartbeats 2000000 in
theorem index_any (A : Option Addr) (n c : Nat) (fs : List Int) (w : World) (hn : fs.length = n) (hr : RdW w A fs) (hf : AllF fs) (h2 : n ≤ 1000) :
    Calls Tryd.prog 41 #[.slice A n c, .func (.func 26) #[] #[]] w fun e w' => (∃ r : Int, e = .returned (.int .i64 r) ∧ decide (0 ≤ r) = anyN fs) ∧ Below w.heap.size w w' := by
  have HN := Lib.hid hn
  clear hn
  go_enter Tryd.func41, Tryd.ntmps41
  go_wp2_with fail
  go_loopw [8] (fun s8 wr => ∃ i : Nat, s8 = .int .i64 (i : Int) ∧ i ≤ n ∧ Hid (∀ j, j < i → fC (fs.getD j 0) ≠ 4) ∧ Hid (Below w.heap.size w wr)) (fun s8 _ => n - (intOf s8).toNat)
  case atStart => exact ⟨0, rfl, Nat.zero_le _, fun j hj => by omega, Below.refl _ _⟩
  case round =>
    obtain ⟨i, rfl, hi, H, HB⟩ := hrel
    by_cases hlt : i < n
    · obtain ⟨g, off, rfl, hg, hc1⟩ := (hr.belowS HB.out).at_ (i := i) (by rw [HN.out]; exact hlt)
      have hx := hf i (by rw [HN.out]; exact hlt)
      have hl1 : (i : Int) < (n : Int) := by omega
      by_cases h4 : fC (fs.getD i 0) = 4
      · have F : Hid (true = anyN fs) := (anyN_true (by rw [HN.out]; exact hlt) h4).symm
        generalize fs.getD i 0 = x at *
        clear H
        go_wp2_with fail
        refine (isNaN_any x hx _).mono ?_
        rw [decide_eq_true h4]
        rintro e w1 ⟨rfl, rfl⟩
        go_wp2_with fail
        go_ret
        exact ⟨⟨i, rfl, by rw [← F.out]; exact decide_eq_true (by omega)⟩, by first | exact HB.out | exact bel_drewN HB.out _⟩
      · have H2 : Hid (∀ j, j < i + 1 → fC (fs.getD j 0) ≠ 4) := fun j hj => by
          rcases Nat.lt_or_ge j i with h | h
          · exact H.out j h
          · obtain rfl : j = i := by omega
            exact h4
        generalize fs.getD i 0 = x at *
        clear H
        go_wp2_with fail
        refine (isNaN_any x hx _).mono ?_
        rw [decide_eq_false h4]
        rintro e w1 ⟨rfl, rfl⟩
        go_wp2_with fail
        go_roundw
        case rel => exact ⟨i + 1, by go_num, by omega, H2, by first | exact HB.out | exact bel_drewN HB.out _⟩
        case measure => simp [intOf]; omega
    · obtain rfl : i = n := by omega
      have F : Hid (false = anyN fs) := (anyN_false fun j hj => H.out j (by rw [← HN.out]; exact hj)).symm
      go_wp2_with fail
      go_ret
      exact ⟨⟨-1, rfl, by rw [← F.out]; rfl⟩, HB.out⟩
theorem contains_any (A : Option Addr) (n c : Nat) (fs : List Int) (w : World) (hn : fs.length = n) (hr : RdW w A fs) (hf : AllF fs) (h2 : n ≤ 1000) :
    Calls Tryd.prog 32 #[.slice A n c, .func (.func 26) #[] #[]] w fun e w' => e = .returned (.bool (anyN fs)) ∧ Below w.heap.size w w' := by
  go_enter Tryd.func32, Tryd.ntmps32
  go_wp2_with fail
  refine (index_any A n c fs _ hn hr hf h2).mono ?_
  rintro e w1 ⟨⟨r, rfl, hr⟩, hb⟩
  go_wp2_with fail
  go_ret
  exact ⟨rfl, hb⟩

theorem max1_any (a b : Int) (ha : Word a) (hb : Word b) (w : World) : Calls Tryd.prog 22 #[.int .u64 a, .int .u64 b] w fun e w' => e = .returned (.bool (fLt b a)) ∧ w = w' := by
  go_enter Tryd.func22, Tryd.ntmps22
  go_wp2_with fail
  refine (less_any b a hb ha _).mono ?_
  rintro e w1 ⟨rfl, rfl⟩
  go_wp2_with fail
  go_ret
  exact ⟨rfl, rfl⟩
theorem min1_any (a b : Int) (ha : Word a) (hb : Word b) (w : World) : Calls Tryd.prog 23 #[.int .u64 a, .int .u64 b] w fun e w' => e = .returned (.bool (fLt a b)) ∧ w = w' := by
  go_enter Tryd.func23, Tryd.ntmps23
  go_wp2_with fail
  refine (less_any a b ha hb _).mono ?_
  rintro e w1 ⟨rfl, rfl⟩
  go_wp2_with fail
  go_ret
  exact ⟨rfl, rfl⟩
theorem fLt_key {a b : Int} (h1 : fC a ≠ 4) (h2 : fC b ≠ 4) : fLt a b = decide (fK a < fK b) := by
  obtain ⟨e1, e2⟩ := fOk_yes h1 h2
  unfold fLt
  rw [e1, e2, Bool.true_and]
  unfold cmpI
  by_cases h : fK a < fK b
  · rw [if_pos h, decide_eq_true h]; rfl
  · rw [if_neg h, decide_eq_false h]; split <;> rfl
theorem fLt_trans2 {a b c : Int} (h1 : fC a ≠ 4) (h2 : fC b ≠ 4) (h3 : fC c ≠ 4) (h : fLt a b = true) (k : fLt c b = false) : fLt c a = false := by
  rw [fLt_key h3 h1]
  rw [fLt_key h1 h2] at h
  rw [fLt_key h3 h2] at k
  simp at h k ⊢
  omega
theorem fLt_up {a b c : Int} (h1 : fC a ≠ 4) (h2 : fC b ≠ 4) (h3 : fC c ≠ 4) (h : fLt b a = true) (k : fLt b c = false) : fLt a c = false := by
  rw [fLt_key h1 h3]
  rw [fLt_key h2 h1] at h
  rw [fLt_key h2 h3] at k
  simp at h k ⊢
  omega
theorem fLt_self {a : Int} (h1 : fC a ≠ 4) : fLt a a = false := by
  rw [fLt_key h1 h1]
  simp
set_option maxHeartbeats 2000000 in
theorem foremax_bad (A : Option Addr) (n c : Nat) (fs : List Int) (w : World) (hn : fs.length = n) (hr : RdW w A fs) (hf : AllF fs) (h2 : n ≤ 1000) (hbad : n = 0 ∨ anyN fs = true) :
    Calls Tryd.prog 21 #[.slice A n c, .func (.func 22) #[] #[]] w fun e w' => e = .returned (.int .u64 9221120237041090560) ∧ Below w.heap.size w w' := by
  by_cases h0 : n = 0
  · subst h0
    go_enter Tryd.func21, Tryd.ntmps21
    go_wp2_with fail
    go_ret
    exact ⟨rfl, Below.refl _ _⟩
  · have hn0 : ((n : Int) == 0) = false := by simp; omega
    have hany : anyN fs = true := by rcases hbad with h | h; exact absurd h h0; exact h
    go_enter Tryd.func21, Tryd.ntmps21
    go_wp2_with fail
    refine (contains_any A n c fs _ hn hr hf h2).mono ?_
    rw [hany]
    rintro e w1 ⟨rfl, hb⟩
    go_wp2_with fail
    go_ret
    exact ⟨rfl, hb⟩
set_option maxHeartbeats 2000000 in
theorem foremax_good (A : Option Addr) (n c : Nat) (fs : List Int) (w : World) (hn : fs.length = n) (hcap : n ≤ c) (hr : RdW w A fs) (hf : AllF fs) (h1 : 1 ≤ n) (h2 : n ≤ 1000) (hok : anyN fs = false) :
    Calls Tryd.prog 21 #[.slice A n c, .func (.func 22) #[] #[]] w fun e w' => (∃ k x, k < n ∧ Hid (fs.getD k 0 = x) ∧ e = .returned (.int .u64 x) ∧ Hid (∀ j, j < n → fLt (x) (fs.getD j 0) = false)) ∧ Below w.heap.size w w' := by
  have hn0 : ((n : Int) == 0) = false := by simp; omega
  have HN := Lib.hid hn
  have HA := Lib.hid (anyN_no hok)
  clear hn
  obtain ⟨m, rfl⟩ : ∃ m, n = m + 1 := ⟨n - 1, by omega⟩
  obtain ⟨g, off, rfl, hg, hc0⟩ := hr.at_ (i := 0) (by rw [HN.out]; exact h1)
  rw [Nat.add_zero] at hc0
  have h0n : (0 : Int) < ((m + 1 : Nat) : Int) := by omega
  have hn1 : ((m : Int) + 1 == 0) = false := by simp; omega
  obtain ⟨x0, hx0⟩ : ∃ x, fs.getD 0 0 = x := ⟨_, rfl⟩
  have HX0 := Lib.hid hx0
  rw [hx0] at hc0
  have hself : Hid (∀ j, j < 0 + 1 → fLt (x0) (fs.getD j 0) = false) := fun j hj => by
    have hj0 : j = 0 := by omega
    subst hj0
    rw [hx0]
    exact fLt_self (by rw [← hx0]; exact HA.out 0 (by rw [HN.out]; exact h1))
  clear hx0
  go_enter Tryd.func21, Tryd.ntmps21
  go_wp2_with fail
  refine (contains_any _ (m + 1) c fs _ HN.out hr hf h2).mono ?_
  rw [hok]
  rintro e w1 ⟨rfl, hb⟩
  have hc2 := (hb.cell hg).trans hc0
  have HB1 := Lib.hid hb
  clear hc0 hb
  by_cases hc1 : c = 1
  · obtain rfl : m = 0 := by omega
    subst hc1
    go_wp2_with fail
    go_loopw [5, 21] (fun s5 s21 wr => s5 = .int .u64 x0 ∧ s21 = .int .i64 0 ∧ wr = w1) (fun _ _ _ => 0)
    case atStart => exact ⟨rfl, rfl, rfl⟩
    case round =>
      obtain ⟨rfl, rfl, rfl⟩ := hrel
      go_wp2_with fail
      go_ret
      exact ⟨⟨0, x0, by decide, HX0, rfl, hself⟩, HB1.out⟩
  · go_wp2_with fail
    go_loopw [5, 21] (fun s5 s21 wr => ∃ (i k : Nat) (x : Int), s5 = .int .u64 x ∧ s21 = .int .i64 (i : Int) ∧ i ≤ m ∧ k < m + 1 ∧ Hid (fs.getD k 0 = x) ∧ Hid (∀ j, j < i + 1 → fLt (x) (fs.getD j 0) = false) ∧ Hid (Below w.heap.size w wr)) (fun _ s21 _ => m - (intOf s21).toNat)
    case atStart => exact ⟨0, 0, x0, rfl, rfl, Nat.zero_le _, by omega, HX0, hself, HB1.out⟩
    case round =>
      obtain ⟨i, k, x, rfl, rfl, hi, hk, HX, HF, HB⟩ := hrel
      have hx := hf k (by rw [HN.out]; exact hk)
      by_cases hlt : i < m
      · have hc3 := (hr.belowS HB.out).at_ (i := i + 1) (by rw [HN.out]; omega)
        obtain ⟨g', off', e, hg3, hc3⟩ := hc3
        injection e with e
        injection e with e1 e2
        subst e1 e2
        rw [show off + (i + 1) = off + 1 + i by omega] at hc3
        have hy := hf (i + 1) (by rw [HN.out]; omega)
        have nx := HA.out k (by rw [HN.out]; exact hk)
        have ny := HA.out (i + 1) (by rw [HN.out]; omega)
        have hl1 : (i : Int) < (m : Int) := by omega
        obtain ⟨y, hyk⟩ : ∃ y, fs.getD (i + 1) 0 = y := ⟨_, rfl⟩
        rw [HX.out] at hx nx
        rw [hyk] at hy ny hc3
        have HY := Lib.hid hyk
        clear hyk hc2
        cases hq : fLt (x) (y)
        · have H2 : Hid (∀ j, j < i + 1 + 1 → fLt (x) (fs.getD j 0) = false) := fun j hj => by
            rcases Nat.lt_or_ge j (i + 1) with h | h
            · exact HF.out j h
            · obtain rfl : j = i + 1 := by omega
              rw [HY.out]
              exact hq
          clear HF
          go_wp2_with fail
          refine (max1_any y x hy hx _).mono ?_
          rw [hq]
          rintro e w2 ⟨rfl, rfl⟩
          go_wp2_with fail
          go_roundw
          case rel => exact ⟨i + 1, k, x, rfl, by go_num, by omega, hk, HX, H2, HB⟩
          case measure => simp [intOf]; omega
        · have H2 : Hid (∀ j, j < i + 1 + 1 → fLt (y) (fs.getD j 0) = false) := fun j hj => by
            rcases Nat.lt_or_ge j (i + 1) with h | h
            · exact fLt_up ny nx (HA.out j (by rw [HN.out]; omega)) hq (HF.out j h)
            · obtain rfl : j = i + 1 := by omega
              rw [HY.out]
              exact fLt_self ny
          clear HF
          go_wp2_with fail
          refine (max1_any y x hy hx _).mono ?_
          rw [hq]
          rintro e w2 ⟨rfl, rfl⟩
          go_wp2_with fail
          go_roundw
          case rel => exact ⟨i + 1, i + 1, y, rfl, by go_num, by omega, by omega, HY, H2, HB⟩
          case measure => simp [intOf]; omega
      · obtain rfl : i = m := by omega
        go_wp2_with fail
        go_ret
        exact ⟨⟨k, x, hk, HX, rfl, HF⟩, HB.out⟩
theorem max_bad (A : Option Addr) (n c : Nat) (fs : List Int) (w : World) (hn : fs.length = n) (hr : RdW w A fs) (hf : AllF fs) (h2 : n ≤ 1000) (hbad : n = 0 ∨ anyN fs = true) :
    Calls Tryd.prog 5 #[.slice A n c] w fun e w' => e = .returned (.int .u64 9221120237041090560) ∧ Below w.heap.size w w' := by
  go_enter Tryd.func5, Tryd.ntmps5
  go_wp2_with fail
  refine (foremax_bad A n c fs _ hn hr hf h2 hbad).mono ?_
  rintro e w1 ⟨rfl, hb⟩
  go_wp2_with fail
  go_ret
  exact ⟨rfl, hb⟩
theorem max_good (A : Option Addr) (n c : Nat) (fs : List Int) (w : World) (hn : fs.length = n) (hcap : n ≤ c) (hr : RdW w A fs) (hf : AllF fs) (h1 : 1 ≤ n) (h2 : n ≤ 1000) (hok : anyN fs = false) :
    Calls Tryd.prog 5 #[.slice A n c] w fun e w' => (∃ k x, k < n ∧ Hid (fs.getD k 0 = x) ∧ e = .returned (.int .u64 x) ∧ Hid (∀ j, j < n → fLt (x) (fs.getD j 0) = false)) ∧ Below w.heap.size w w' := by
  go_enter Tryd.func5, Tryd.ntmps5
  go_wp2_with fail
  refine (foremax_good A n c fs _ hn hcap hr hf h1 h2 hok).mono ?_
  rintro e w1 ⟨⟨k, x, hk, hx, rfl, hj⟩, hb⟩
  go_wp2_with fail
  go_ret
  exact ⟨⟨k, x, hk, hx, rfl, hj⟩, hb⟩

set_option maxHeartbeats 2000000 in
theorem foremin_bad (A : Option Addr) (n c : Nat) (fs : List Int) (w : World) (hn : fs.length = n) (hr : RdW w A fs) (hf : AllF fs) (h2 : n ≤ 1000) (hbad : n = 0 ∨ anyN fs = true) :
    Calls Tryd.prog 21 #[.slice A n c, .func (.func 23) #[] #[]] w fun e w' => e = .returned (.int .u64 9221120237041090560) ∧ Below w.heap.size w w' := by
  by_cases h0 : n = 0
  · subst h0
    go_enter Tryd.func21, Tryd.ntmps21
    go_wp2_with fail
    go_ret
    exact ⟨rfl, Below.refl _ _⟩
  · have hn0 : ((n : Int) == 0) = false := by simp; omega
    have hany : anyN fs = true := by rcases hbad with h | h; exact absurd h h0; exact h
    go_enter Tryd.func21, Tryd.ntmps21
    go_wp2_with fail
    refine (contains_any A n c fs _ hn hr hf h2).mono ?_
    rw [hany]
    rintro e w1 ⟨rfl, hb⟩
    go_wp2_with fail
    go_ret
    exact ⟨rfl, hb⟩
set_option maxHeartbeats 2000000 in
theorem foremin_good (A : Option Addr) (n c : Nat) (fs : List Int) (w : World) (hn : fs.length = n) (hcap : n ≤ c) (hr : RdW w A fs) (hf : AllF fs) (h1 : 1 ≤ n) (h2 : n ≤ 1000) (hok : anyN fs = false) :
    Calls Tryd.prog 21 #[.slice A n c, .func (.func 23) #[] #[]] w fun e w' => (∃ k x, k < n ∧ Hid (fs.getD k 0 = x) ∧ e = .returned (.int .u64 x) ∧ Hid (∀ j, j < n → fLt (fs.getD j 0) (x) = false)) ∧ Below w.heap.size w w' := by
  have hn0 : ((n : Int) == 0) = false := by simp; omega
  have HN := Lib.hid hn
  have HA := Lib.hid (anyN_no hok)
  clear hn
  obtain ⟨m, rfl⟩ : ∃ m, n = m + 1 := ⟨n - 1, by omega⟩
  obtain ⟨g, off, rfl, hg, hc0⟩ := hr.at_ (i := 0) (by rw [HN.out]; exact h1)
  rw [Nat.add_zero] at hc0
  have h0n : (0 : Int) < ((m + 1 : Nat) : Int) := by omega
  have hn1 : ((m : Int) + 1 == 0) = false := by simp; omega
  obtain ⟨x0, hx0⟩ : ∃ x, fs.getD 0 0 = x := ⟨_, rfl⟩
  have HX0 := Lib.hid hx0
  rw [hx0] at hc0
  have hself : Hid (∀ j, j < 0 + 1 → fLt (fs.getD j 0) (x0) = false) := fun j hj => by
    have hj0 : j = 0 := by omega
    subst hj0
    rw [hx0]
    exact fLt_self (by rw [← hx0]; exact HA.out 0 (by rw [HN.out]; exact h1))
  clear hx0
  go_enter Tryd.func21, Tryd.ntmps21
  go_wp2_with fail
  refine (contains_any _ (m + 1) c fs _ HN.out hr hf h2).mono ?_
  rw [hok]
  rintro e w1 ⟨rfl, hb⟩
  have hc2 := (hb.cell hg).trans hc0
  have HB1 := Lib.hid hb
  clear hc0 hb
  by_cases hc1 : c = 1
  · obtain rfl : m = 0 := by omega
    subst hc1
    go_wp2_with fail
    go_loopw [5, 21] (fun s5 s21 wr => s5 = .int .u64 x0 ∧ s21 = .int .i64 0 ∧ wr = w1) (fun _ _ _ => 0)
    case atStart => exact ⟨rfl, rfl, rfl⟩
    case round =>
      obtain ⟨rfl, rfl, rfl⟩ := hrel
      go_wp2_with fail
      go_ret
      exact ⟨⟨0, x0, by decide, HX0, rfl, hself⟩, HB1.out⟩
  · go_wp2_with fail
    go_loopw [5, 21] (fun s5 s21 wr => ∃ (i k : Nat) (x : Int), s5 = .int .u64 x ∧ s21 = .int .i64 (i : Int) ∧ i ≤ m ∧ k < m + 1 ∧ Hid (fs.getD k 0 = x) ∧ Hid (∀ j, j < i + 1 → fLt (fs.getD j 0) (x) = false) ∧ Hid (Below w.heap.size w wr)) (fun _ s21 _ => m - (intOf s21).toNat)
    case atStart => exact ⟨0, 0, x0, rfl, rfl, Nat.zero_le _, by omega, HX0, hself, HB1.out⟩
    case round =>
      obtain ⟨i, k, x, rfl, rfl, hi, hk, HX, HF, HB⟩ := hrel
      have hx := hf k (by rw [HN.out]; exact hk)
      by_cases hlt : i < m
      · have hc3 := (hr.belowS HB.out).at_ (i := i + 1) (by rw [HN.out]; omega)
        obtain ⟨g', off', e, hg3, hc3⟩ := hc3
        injection e with e
        injection e with e1 e2
        subst e1 e2
        rw [show off + (i + 1) = off + 1 + i by omega] at hc3
        have hy := hf (i + 1) (by rw [HN.out]; omega)
        have nx := HA.out k (by rw [HN.out]; exact hk)
        have ny := HA.out (i + 1) (by rw [HN.out]; omega)
        have hl1 : (i : Int) < (m : Int) := by omega
        obtain ⟨y, hyk⟩ : ∃ y, fs.getD (i + 1) 0 = y := ⟨_, rfl⟩
        rw [HX.out] at hx nx
        rw [hyk] at hy ny hc3
        have HY := Lib.hid hyk
        clear hyk hc2
        cases hq : fLt (y) (x)
        · have H2 : Hid (∀ j, j < i + 1 + 1 → fLt (fs.getD j 0) (x) = false) := fun j hj => by
            rcases Nat.lt_or_ge j (i + 1) with h | h
            · exact HF.out j h
            · obtain rfl : j = i + 1 := by omega
              rw [HY.out]
              exact hq
          clear HF
          go_wp2_with fail
          refine (min1_any y x hy hx _).mono ?_
          rw [hq]
          rintro e w2 ⟨rfl, rfl⟩
          go_wp2_with fail
          go_roundw
          case rel => exact ⟨i + 1, k, x, rfl, by go_num, by omega, hk, HX, H2, HB⟩
          case measure => simp [intOf]; omega
        · have H2 : Hid (∀ j, j < i + 1 + 1 → fLt (fs.getD j 0) (y) = false) := fun j hj => by
            rcases Nat.lt_or_ge j (i + 1) with h | h
            · exact fLt_trans2 ny nx (HA.out j (by rw [HN.out]; omega)) hq (HF.out j h)
            · obtain rfl : j = i + 1 := by omega
              rw [HY.out]
              exact fLt_self ny
          clear HF
          go_wp2_with fail
          refine (min1_any y x hy hx _).mono ?_
          rw [hq]
          rintro e w2 ⟨rfl, rfl⟩
          go_wp2_with fail
          go_roundw
          case rel => exact ⟨i + 1, i + 1, y, rfl, by go_num, by omega, by omega, HY, H2, HB⟩
          case measure => simp [intOf]; omega
      · obtain rfl : i = m := by omega
        go_wp2_with fail
        go_ret
        exact ⟨⟨k, x, hk, HX, rfl, HF⟩, HB.out⟩
theorem min_bad (A : Option Addr) (n c : Nat) (fs : List Int) (w : World) (hn : fs.length = n) (hr : RdW w A fs) (hf : AllF fs) (h2 : n ≤ 1000) (hbad : n = 0 ∨ anyN fs = true) :
    Calls Tryd.prog 6 #[.slice A n c] w fun e w' => e = .returned (.int .u64 9221120237041090560) ∧ Below w.heap.size w w' := by
  go_enter Tryd.func6, Tryd.ntmps6
  go_wp2_with fail
  refine (foremin_bad A n c fs _ hn hr hf h2 hbad).mono ?_
  rintro e w1 ⟨rfl, hb⟩
  go_wp2_with fail
  go_ret
  exact ⟨rfl, hb⟩
theorem min_good (A : Option Addr) (n c : Nat) (fs : List Int) (w : World) (hn : fs.length = n) (hcap : n ≤ c) (hr : RdW w A fs) (hf : AllF fs) (h1 : 1 ≤ n) (h2 : n ≤ 1000) (hok : anyN fs = false) :
    Calls Tryd.prog 6 #[.slice A n c] w fun e w' => (∃ k x, k < n ∧ Hid (fs.getD k 0 = x) ∧ e = .returned (.int .u64 x) ∧ Hid (∀ j, j < n → fLt (fs.getD j 0) (x) = false)) ∧ Below w.heap.size w w' := by
  go_enter Tryd.func6, Tryd.ntmps6
  go_wp2_with fail
  refine (foremin_good A n c fs _ hn hcap hr hf h1 h2 hok).mono ?_
  rintro e w1 ⟨⟨k, x, hk, hx, rfl, hj⟩, hb⟩
  go_wp2_with fail
  go_ret
  exact ⟨⟨k, x, hk, hx, rfl, hj⟩, hb⟩

end Go.Proofs.YtnicecpmpnhmfabDoor
