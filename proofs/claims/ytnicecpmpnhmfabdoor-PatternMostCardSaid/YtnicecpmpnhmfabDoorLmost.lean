/-
  The walk of PatternMost: whatever is handed in, the law answers true. Condition: the table of math/bits stands in its variable.
-/
import Derived.Test.YtnicecpmpnhmfabDoorQworks4
namespace Go.Proofs.YtnicecpmpnhmfabDoor
open Go.RowKit
set_option maxRecDepth 100000

theorem anyN_yes {fs : List Int} (h : anyN fs = true) : ∃ i, i < fs.length ∧ fC (fs.getD i 0) = 4 := by
  unfold anyN at h
  rw [List.any_eq_true] at h
  obtain ⟨i, hi, hd⟩ := h
  exact ⟨i, List.mem_range.1 hi, of_decide_eq_true hd⟩

set_option maxHeartbeats 4000000 in
theorem lmost_long (A : Option Addr) (n c : Nat) (w : World) (hT : TabOk w) (h : 100 < n) :
    Calls Tryd.prog 3 #[.slice A n c] w fun e w' => e = .returned (.bool true) ∧ Below w.heap.size w w' := by
  have hl : (100 : Int) < (n : Int) := by omega
  go_enter Tryd.func3, Tryd.ntmps3
  go_wp2_with fail
  refine (works4 w hT).mono ?_
  rintro e w1 ⟨rfl, hb⟩
  go_wp2_with fail
  go_ret
  exact ⟨rfl, hb⟩
set_option maxHeartbeats 4000000 in
theorem lmost_none (A : Option Addr) (c : Nat) (us : List Int) (w : World) (hn : us.length = 0) (hr : RdW w A us) (hu : AllF us) (hT : TabOk w) :
    Calls Tryd.prog 3 #[.slice A 0 c] w fun e w' => e = .returned (.bool true) ∧ Below w.heap.size w w' := by
  go_enter Tryd.func3, Tryd.ntmps3
  go_wp2_with fail
  refine (works4 w hT).mono ?_
  rintro e w1 ⟨rfl, hb⟩
  have r1 := hr.belowS hb
  have H1 := Lib.hid hb
  clear hb
  go_wp2_with fail
  refine (max_bad A 0 c us _ hn r1 hu (by decide) (.inl rfl)).mono ?_
  rintro e w2 ⟨rfl, hb⟩
  have r2 := r1.belowS hb
  have H2 := Lib.hid (bel_trans H1.out hb)
  clear hb H1 r1
  go_wp2_with fail
  refine (min_bad A 0 c us _ hn r2 hu (by decide) (.inl rfl)).mono ?_
  rintro e w3 ⟨rfl, hb⟩
  have H3 := Lib.hid (bel_trans H2.out hb)
  clear hb H2 r2
  go_wp2_with fail
  go_loopw [6, 7] (fun s6 s7 wr => s6 = .bool true ∧ s7 = .int .i64 0 ∧ wr = w3) (fun _ _ _ => 0)
  case atStart => exact ⟨rfl, rfl, rfl⟩
  case round =>
    obtain ⟨rfl, rfl, rfl⟩ := hrel
    go_wp2_with fail
    refine (quiet_f _).mono ?_
    rintro e w4 ⟨rfl, rfl⟩
    go_wp2_with fail
    refine (quiet_f _).mono ?_
    rintro e w4 ⟨rfl, rfl⟩
    go_wp2_with fail
    go_ret
    exact ⟨rfl, H3.out⟩
set_option maxHeartbeats 4000000 in
theorem lmost_bad (A : Option Addr) (n c : Nat) (us : List Int) (w : World) (hn : us.length = n) (hr : RdW w A us) (hu : AllF us) (hT : TabOk w) (h1 : 1 ≤ n) (h2 : n ≤ 100) (hany : anyN us = true) :
    Calls Tryd.prog 3 #[.slice A n c] w fun e w' => e = .returned (.bool true) ∧ Below w.heap.size w w' := by
  obtain ⟨j0, hj0, hj4⟩ := anyN_yes hany
  have HJ := Lib.hid hj4
  have hn0 : ((n : Int) == 0) = false := by simp; omega
  have hlong : ¬ (100 : Int) < (n : Int) := by omega
  have HN := Lib.hid hn
  rw [hn] at hj0
  clear hn hj4
  go_enter Tryd.func3, Tryd.ntmps3
  go_wp2_with fail
  refine (works4 w hT).mono ?_
  rintro e w1 ⟨rfl, hb⟩
  have r1 := hr.belowS hb
  have H1 := Lib.hid hb
  clear hb
  go_wp2_with fail
  refine (max_bad A n c us _ HN.out r1 hu (by omega) (.inr hany)).mono ?_
  rintro e w2 ⟨rfl, hb⟩
  have r2 := r1.belowS hb
  have H2 := Lib.hid (bel_trans H1.out hb)
  clear hb H1 r1
  go_wp2_with fail
  refine (min_bad A n c us _ HN.out r2 hu (by omega) (.inr hany)).mono ?_
  rintro e w3 ⟨rfl, hb⟩
  have r3 := r2.belowS hb
  have H3 := Lib.hid (bel_trans H2.out hb)
  clear hb H2 r2
  go_wp2_with fail
  go_loopw [6, 7] (fun s6 s7 wr => ∃ (b : Bool) (i : Nat), s6 = .bool b ∧ s7 = .int .i64 (i : Int) ∧ i ≤ n ∧ Hid (j0 < i → b = true) ∧ wr = w3) (fun _ s7 _ => n - (intOf s7).toNat)
  case atStart => exact ⟨false, 0, rfl, rfl, Nat.zero_le _, fun h => by omega, rfl⟩
  case round =>
    obtain ⟨b, i, rfl, rfl, hi, HI, rfl⟩ := hrel
    by_cases hlt : i < n
    · have hl1 : (i : Int) < (n : Int) := by omega
      cases b
      · obtain ⟨g, off, rfl, hg, hc1⟩ := r3.at_ (i := i) (by rw [HN.out]; exact hlt)
        have hx := hu i (by rw [HN.out]; exact hlt)
        have HI2 : Hid (j0 < i + 1 → (fC (us.getD i 0) == 4) = true) := fun h => by
          rcases Nat.lt_or_ge j0 i with k | k
          · exact absurd (HI.out k) (by decide)
          · obtain rfl : j0 = i := by omega
            rw [HJ.out]; rfl
        generalize us.getD i 0 = x at *
        obtain ⟨b2, hb2⟩ : ∃ b2, (fC x == 4) = b2 := ⟨_, rfl⟩
        rw [hb2] at HI2
        clear HI
        go_wp2_with fail
        refine (class_any x hx _).mono ?_
        rintro e w4 ⟨rfl, rfl⟩
        go_wp2_with fail
        go_roundw
        case rel => exact ⟨b2, i + 1, by first | rfl | rw [hb2], by go_num, by omega, HI2, by trivial⟩
        case measure => simp [intOf]; omega
      · clear HI
        go_wp2_with fail
        go_roundw
        case rel => exact ⟨true, i + 1, rfl, by go_num, by omega, fun _ => rfl, by trivial⟩
        case measure => simp [intOf]; omega
    · obtain rfl : i = n := by omega
      obtain rfl : b = true := HI.out hj0
      go_wp2_with fail
      refine (quiet_f _).mono ?_
      rintro e w4 ⟨rfl, rfl⟩
      go_wp2_with fail
      refine (quiet_f _).mono ?_
      rintro e w4 ⟨rfl, rfl⟩
      go_wp2_with fail
      go_ret
      exact ⟨rfl, H3.out⟩
set_option maxHeartbeats 4000000 in
theorem lmost_good (A : Option Addr) (n c : Nat) (us : List Int) (w : World) (hn : us.length = n) (hc : n ≤ c) (hr : RdW w A us) (hu : AllF us) (hT : TabOk w) (h1 : 1 ≤ n) (h2 : n ≤ 100) (hany : anyN us = false) :
    Calls Tryd.prog 3 #[.slice A n c] w fun e w' => e = .returned (.bool true) ∧ Below w.heap.size w w' := by
  have HA := Lib.hid (anyN_no hany)
  have hn0 : ((n : Int) == 0) = false := by simp; omega
  have hlong : ¬ (100 : Int) < (n : Int) := by omega
  have HN := Lib.hid hn
  clear hn
  go_enter Tryd.func3, Tryd.ntmps3
  go_wp2_with fail
  refine (works4 w hT).mono ?_
  rintro e w1 ⟨rfl, hb⟩
  have r1 := hr.belowS hb
  have H1 := Lib.hid hb
  clear hb
  go_wp2_with fail
  refine (max_good A n c us _ HN.out hc r1 hu h1 (by omega) hany).mono ?_
  rintro e w2 ⟨⟨ka, xa, hka, hxa, rfl, hja⟩, hb⟩
  have r2 := r1.belowS hb
  have H2 := Lib.hid (bel_trans H1.out hb)
  clear hb H1 r1
  go_wp2_with fail
  refine (min_good A n c us _ HN.out hc r2 hu h1 (by omega) hany).mono ?_
  rintro e w3 ⟨⟨kb, xb, hkb, hxb, rfl, hjb⟩, hb⟩
  have r3 := r2.belowS hb
  have H3 := Lib.hid (bel_trans H2.out hb)
  have wa : Word xa := by rw [← hxa.out]; exact hu ka (by rw [HN.out]; exact hka)
  have wb : Word xb := by rw [← hxb.out]; exact hu kb (by rw [HN.out]; exact hkb)
  clear hb H2 r2
  go_wp2_with fail
  go_loopw [6, 7] (fun s6 s7 wr => ∃ (i : Nat), s6 = .bool false ∧ s7 = .int .i64 (i : Int) ∧ i ≤ n ∧ wr = w3) (fun _ s7 _ => n - (intOf s7).toNat)
  case atStart => exact ⟨0, rfl, rfl, Nat.zero_le _, rfl⟩
  case round =>
    obtain ⟨i, rfl, rfl, hi, rfl⟩ := hrel
    by_cases hlt : i < n
    · have hl1 : (i : Int) < (n : Int) := by omega
      obtain ⟨g, off, rfl, hg, hc1⟩ := r3.at_ (i := i) (by rw [HN.out]; exact hlt)
      have hx := hu i (by rw [HN.out]; exact hlt)
      have h4 := HA.out i (by rw [HN.out]; exact hlt)
      have hd : (fC (us.getD i 0) == 4) = false := by simpa using h4
      generalize us.getD i 0 = x at *
      go_wp2_with fail
      refine (class_any x hx _).mono ?_
      rintro e w4 ⟨rfl, rfl⟩
      go_wp2_with fail
      go_roundw
      case rel => exact ⟨i + 1, rfl, by go_num, by omega, by trivial⟩
      case measure => simp [intOf]; omega
    · obtain rfl : i = n := by omega
      go_wp2_with fail
      go_loopw [8, 9, 10] (fun s8 s9 s10 wr' => ∃ (o t : Bool) (i' : Nat), s8 = .bool o ∧ s9 = .bool t ∧ s10 = .int .i64 (i' : Int) ∧ i' ≤ i ∧ Hid (ka < i' → o = true) ∧ Hid (kb < i' → t = true) ∧ wr' = wr) (fun _ _ s10 _ => i - (intOf s10).toNat)
      case atStart => exact ⟨false, false, 0, rfl, rfl, rfl, Nat.zero_le _, fun h => by omega, fun h => by omega, rfl⟩
      case round =>
        obtain ⟨o, t, i', rfl, rfl, rfl, hi', HO, HP, rfl⟩ := hrel
        by_cases hlt' : i' < i
        · have hl1 : (i' : Int) < (i : Int) := by omega
          obtain ⟨g, off, rfl, hg, hc1⟩ := r3.at_ (i := i') (by rw [HN.out]; exact hlt')
          have hx := hu i' (by rw [HN.out]; exact hlt')
          have L1 := hja.out i' hlt'
          have L2 := hjb.out i' hlt'
          have HO2 : Hid (ka < i' + 1 → (o || xa == us.getD i' 0) = true) := fun h => by
            rcases Nat.lt_or_ge ka i' with k | k
            · rw [HO.out k]; rfl
            · obtain rfl : ka = i' := by omega
              rw [hxa.out]; simp
          have HP2 : Hid (kb < i' + 1 → (t || xb == us.getD i' 0) = true) := fun h => by
            rcases Nat.lt_or_ge kb i' with k | k
            · rw [HP.out k]; rfl
            · obtain rfl : kb = i' := by omega
              rw [hxb.out]; simp
          generalize us.getD i' 0 = x at *
          obtain ⟨ea, hea⟩ : ∃ e, (xa == x) = e := ⟨_, rfl⟩
          obtain ⟨eb, heb⟩ : ∃ e, (xb == x) = e := ⟨_, rfl⟩
          rw [hea] at HO2
          rw [heb] at HP2
          clear HO HP
          have C1 := fun w => less_any xa x wa hx w
          have C2 := fun w => less_any x xb hx wb w
          rw [L1] at C1
          rw [L2] at C2
          clear L1 L2
          cases o <;> cases t
          all_goals
            go_wp2_with fail
            refine (C1 _).mono ?_
            rintro e w4 ⟨rfl, rfl⟩
            go_wp2_with fail
            refine (C2 _).mono ?_
            rintro e w4 ⟨rfl, rfl⟩
            go_wp2_with fail
            go_roundw
            case rel => exact ⟨_, _, i' + 1, rfl, rfl, by go_num, by omega, HO2, HP2, by trivial⟩
            case measure => simp [intOf]; omega
        · obtain rfl : i' = i := by omega
          obtain rfl : o = true := HO.out hka
          obtain rfl : t = true := HP.out hkb
          go_wp2_with fail
          go_ret
          exact ⟨rfl, H3.out⟩
theorem lmost_walk (A : Option Addr) (n c : Nat) (us : List Int) (w : World) (hn : us.length = n) (hc : n ≤ c) (hr : RdW w A us) (hu : AllF us) (hT : TabOk w) :
    Calls Tryd.prog 3 #[.slice A n c] w fun e w' => e = .returned (.bool true) ∧ Below w.heap.size w w' := by
  by_cases h : 100 < n
  · exact lmost_long A n c w hT h
  · by_cases h0 : n = 0
    · subst h0
      exact lmost_none A c us w hn hr hu hT
    · cases hany : anyN us
      · exact lmost_good A n c us w hn hc hr hu hT (by omega) (by omega) hany
      · exact lmost_bad A n c us w hn hr hu hT (by omega) (by omega) hany
end Go.Proofs.YtnicecpmpnhmfabDoor
