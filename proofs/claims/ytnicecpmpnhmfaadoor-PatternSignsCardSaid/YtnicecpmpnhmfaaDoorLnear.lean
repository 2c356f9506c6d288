/-
  The walks of PatternNeighbours, PatternSigns and PatternBetween: whatever is handed in, the laws answer true. Condition: the table of math/bits stands in its variable.
-/
import Derived.Test.YtnicecpmpnhmfaaDoorQworks4
namespace Go.Proofs.YtnicecpmpnhmfaaDoor
open Go.RowKit
set_option maxRecDepth 100000

set_option maxHeartbeats 4000000 in
theorem lneighbours_walk (f : Int) (w : World) (hf : Word f) (hT : TabOk w) :
    Calls Tryd.prog 6 #[.int .u64 f] w fun e w' => e = .returned (.bool true) ∧ Below w.heap.size w w' := by
  go_enter Tryd.func6, Tryd.ntmps6
  go_wp2_with fail
  refine (works4 w hT).mono ?_
  rintro e w1 ⟨rfl, hb⟩
  have HB := Lib.hid hb
  clear hb
  go_wp2_with fail
  refine (next_f f hf _).mono ?_
  rintro e w2 ⟨rfl, rfl⟩
  go_wp2_with fail
  refine (gnext_any f hf _).mono ?_
  rintro e w2 ⟨rfl, rfl⟩
  go_wp2_with fail
  refine (prev_f f hf _).mono ?_
  rintro e w2 ⟨rfl, rfl⟩
  go_wp2_with fail
  refine (gprev_any f hf _).mono ?_
  rintro e w2 ⟨rfl, rfl⟩
  go_wp2_with fail
  go_ret
  exact ⟨rfl, HB.out⟩

theorem ng_parts {f : Int} (hf : Word f) (hn : fC f ≠ 4) : fS (fNg f) = !fS f ∧ fE (fNg f) = fE f ∧ fM (fNg f) = fM f ∧ fNg (fNg f) = f := by
  obtain ⟨c1, c2, c3, c4⟩ := fNg_key hf hn
  have e : fNg f = if fS f then f - 9223372036854775808 else f + 9223372036854775808 := if_neg hn
  have e2 : fE (fNg f) = fE f ∧ fM (fNg f) = fM f := by
    rw [e]
    unfold fE fM
    split <;> omega
  exact ⟨c3, e2.1, e2.2, c4⟩
theorem ab_parts {f : Int} (hf : Word f) (hn : fC f ≠ 4) : fS (fAb f) = false ∧ fE (fAb f) = fE f ∧ fM (fAb f) = fM f ∧ Word (fAb f) := by
  have e : fAb f = f % 9223372036854775808 := if_neg hn
  rw [e]
  obtain ⟨h0, h1⟩ := hf
  refine ⟨decide_eq_false (by omega), ?_, ?_, by omega, by omega⟩
  · unfold fE; omega
  · unfold fM; omega
set_option maxHeartbeats 4000000 in
theorem lsigns_walk (f : Int) (w : World) (hf : Word f) (hT : TabOk w) :
    Calls Tryd.prog 8 #[.int .u64 f] w fun e w' => e = .returned (.bool true) ∧ Below w.heap.size w w' := by
  by_cases h : fC f = 4
  · have N1 := Lib.hid (fNg_nan h)
    have N2 : Hid (fAb f = f) := if_pos h
    go_enter Tryd.func8, Tryd.ntmps8
    go_wp2_with fail
    refine (works4 w hT).mono ?_
    rintro e w1 ⟨rfl, hb⟩
    have HB := Lib.hid hb
    clear hb
    go_wp2_with fail
    refine (neg_f f hf _).mono ?_
    rw [N1.out]
    rintro e w2 ⟨rfl, rfl⟩
    go_wp2_with fail
    refine (abs_f f hf _).mono ?_
    rw [N2.out]
    rintro e w2 ⟨rfl, rfl⟩
    go_wp2_with fail
    refine (class_any f hf _).mono ?_
    rw [h]
    rintro e w2 ⟨rfl, rfl⟩
    go_wp2_with fail
    go_ret
    exact ⟨rfl, HB.out⟩
  · have hd : (fC f == 4) = false := by simp [h]
    obtain ⟨a1, a2, a3, a4⟩ := ng_parts hf h
    obtain ⟨b1, b2, b3, b4⟩ := ab_parts hf h
    have P1 := fun w => parts_any (fNg f) (fNg_word hf) w
    have P2 := fun w => parts_any (fAb f) b4 w
    have P3 := fun w => neg_f (fNg f) (fNg_word hf) w
    rw [a1, a2, a3] at P1
    rw [b1, b2, b3] at P2
    rw [a4] at P3
    clear a1 a2 a3 a4 b1 b2 b3
    have hs : (fS f != !fS f) = true := by cases fS f <;> rfl
    go_enter Tryd.func8, Tryd.ntmps8
    go_wp2_with fail
    refine (works4 w hT).mono ?_
    rintro e w1 ⟨rfl, hb⟩
    have HB := Lib.hid hb
    clear hb
    go_wp2_with fail
    refine (neg_f f hf _).mono ?_
    rintro e w2 ⟨rfl, rfl⟩
    go_wp2_with fail
    refine (abs_f f hf _).mono ?_
    rintro e w2 ⟨rfl, rfl⟩
    go_wp2_with fail
    refine (class_any f hf _).mono ?_
    rintro e w2 ⟨rfl, rfl⟩
    go_wp2_with fail
    refine (parts_any f hf _).mono ?_
    rintro e w2 ⟨rfl, rfl⟩
    go_wp2_with fail
    refine (P1 _).mono ?_
    rintro e w2 ⟨rfl, rfl⟩
    go_wp2_with fail
    refine (P2 _).mono ?_
    rintro e w2 ⟨rfl, rfl⟩
    go_wp2_with fail
    refine (P3 _).mono ?_
    rintro e w2 ⟨rfl, rfl⟩
    go_wp2_with fail
    go_ret
    exact ⟨rfl, HB.out⟩

theorem inf_key {f : Int} (hf : Word f) : fK f = 9218868437227405312 ↔ f = 9218868437227405312 := by
  obtain ⟨k1, k2⟩ := fK_is hf
  obtain ⟨h0, h1⟩ := hf
  by_cases h : f < 9223372036854775808
  · rw [k1 h]
  · rw [k2 (by omega)]; omega
theorem next_key {f : Int} (hf : Word f) (hn : fC f ≠ 4) (hk : fK f ≠ 9218868437227405312) : fC (fNx f) ≠ 4 ∧ fK (fNx f) = fK f + 1 := by
  obtain ⟨n1, n2, n3⟩ := fNx_of hf hn hk
  have hw := fNx_word hf
  have hq : ¬ 9218868437227405312 < f % 9223372036854775808 := fun k => hn ((nan_iff hf).2 k)
  rw [Ne, nan_iff hw]
  obtain ⟨k1, k2⟩ := fK_is hf
  obtain ⟨k3, k4⟩ := fK_is hw
  obtain ⟨-, -, m3, m4, m5⟩ := fNx_is hf
  rw [Ne, inf_key hf] at hk
  obtain ⟨h0, h1⟩ := hf
  by_cases h : f < 9223372036854775808
  · have e := m5 (by omega)
    rw [e] at k3 k4 ⊢
    rw [k1 h, k3 (by omega)]
    omega
  · by_cases h2 : f = 9223372036854775808
    · have e := m3 h2
      rw [e] at k3 k4 ⊢
      rw [k2 (by omega), k3 (by omega)]
      omega
    · have e := m4 (by omega) (by omega)
      rw [e] at k3 k4 ⊢
      rw [k2 (by omega)]
      by_cases h3 : f = 9223372036854775809
      · subst h3; decide
      · rw [k4 (by omega)]; omega
theorem prev_key {f : Int} (hf : Word f) (hn : fC f ≠ 4) (hk : fK f ≠ -9218868437227405312) : fC (fPv f) ≠ 4 ∧ fK (fPv f) = fK f - 1 := by
  obtain ⟨c1, c2, -, -⟩ := fNg_key hf hn
  obtain ⟨d1, d2⟩ := next_key (fNg_word hf) c1 (by rw [c2]; omega)
  obtain ⟨e1, e2, -, -⟩ := fNg_key (fNx_word (fNg_word hf)) d1
  refine ⟨e1, ?_⟩
  unfold fPv
  rw [e2, d2, c2]
  omega
theorem key_low {f : Int} (hf : Word f) (hn : fC f ≠ 4) : -9218868437227405312 ≤ fK f ∧ fK f ≤ 9218868437227405312 := by
  have hq : ¬ 9218868437227405312 < f % 9223372036854775808 := fun k => hn ((nan_iff hf).2 k)
  unfold fK
  split <;> omega
theorem between {f : Int} (hf : Word f) (hn : fC f ≠ 4) (hk : f ≠ 9218868437227405312) : fCmp (fPv (fNx f)) f = 0 ∧ fOk (fPv (fNx f)) f = true ∧ fLt f (fNx f) = true ∧ ∀ g, fLt f g = true → fLt g (fNx f) = false := by
  rw [Ne, ← inf_key hf] at hk
  obtain ⟨a1, a2⟩ := next_key hf hn hk
  have b := key_low hf hn
  obtain ⟨c1, c2⟩ := prev_key (fNx_word hf) a1 (by omega)
  obtain ⟨d1, d2⟩ := fOk_yes c1 hn
  refine ⟨?_, d1, ?_, fun g hg => ?_⟩
  · rw [d2, c2, a2]
    unfold cmpI
    rw [if_neg (by omega), if_neg (by omega)]
  · rw [fLt_key hn a1]
    exact decide_eq_true (by omega)
  · by_cases h4 : fC g = 4
    · unfold fLt
      rw [(fOk_no1 h4).1]
      rfl
    · rw [fLt_key hn h4] at hg
      rw [fLt_key h4 a1]
      have := of_decide_eq_true hg
      exact decide_eq_false (by omega)
set_option maxHeartbeats 4000000 in
theorem lbetween_walk (f g : Int) (w : World) (hf : Word f) (hg : Word g) (hT : TabOk w) :
    Calls Tryd.prog 7 #[.int .u64 f, .int .u64 g] w fun e w' => e = .returned (.bool true) ∧ Below w.heap.size w w' := by
  by_cases h : fC f = 4
  · have N1 : Hid (fNx f = f) := if_pos (.inl h)
    go_enter Tryd.func7, Tryd.ntmps7
    go_wp2_with fail
    refine (works4 w hT).mono ?_
    rintro e w1 ⟨rfl, hb⟩
    have HB := Lib.hid hb
    clear hb
    go_wp2_with fail
    refine (class_any f hf _).mono ?_
    rw [h]
    rintro e w2 ⟨rfl, rfl⟩
    go_wp2_with fail
    refine (next_f f hf _).mono ?_
    rw [N1.out]
    rintro e w2 ⟨rfl, rfl⟩
    go_wp2_with fail
    go_ret
    exact ⟨rfl, HB.out⟩
  · have hd : (fC f == 4) = false := by simp [h]
    by_cases h2 : f = 9218868437227405312
    · have N1 : Hid (fNx f = f) := if_pos (.inr h2)
      subst h2
      go_enter Tryd.func7, Tryd.ntmps7
      go_wp2_with fail
      refine (works4 w hT).mono ?_
      rintro e w1 ⟨rfl, hb⟩
      have HB := Lib.hid hb
      clear hb
      go_wp2_with fail
      refine (class_any _ hf _).mono ?_
      rintro e w2 ⟨rfl, rfl⟩
      go_wp2_with fail
      refine (inf_f false _).mono ?_
      rw [show 9218868437227405312 + sg false = 9218868437227405312 by decide]
      rintro e w2 ⟨rfl, rfl⟩
      go_wp2_with fail
      refine (next_f _ hf _).mono ?_
      rw [N1.out]
      rintro e w2 ⟨rfl, rfl⟩
      go_wp2_with fail
      go_ret
      exact ⟨rfl, HB.out⟩
    · have hd2 : (f == 9218868437227405312) = false := by simp [h2]
      obtain ⟨b1, b2, b3, b4⟩ := between hf h h2
      have wn := fNx_word hf
      have C := fun w => cmp_any (fPv (fNx f)) f (fPv_word wn) hf w
      have U := fun w => less_any f (fNx f) hf wn w
      rw [b1, b2] at C
      rw [b3] at U
      have B4 := Lib.hid b4
      clear b1 b2 b3 b4
      have L := fun w => less_any f g hf hg w
      cases hq : fLt f g
      · rw [hq] at L
        go_enter Tryd.func7, Tryd.ntmps7
        go_wp2_with fail
        refine (works4 w hT).mono ?_
        rintro e w1 ⟨rfl, hb⟩
        have HB := Lib.hid hb
        clear hb
        go_wp2_with fail
        refine (class_any _ hf _).mono ?_
        rintro e w2 ⟨rfl, rfl⟩
        go_wp2_with fail
        refine (inf_f false _).mono ?_
        rw [show 9218868437227405312 + sg false = 9218868437227405312 by decide]
        rintro e w2 ⟨rfl, rfl⟩
        go_wp2_with fail
        refine (next_f _ hf _).mono ?_
        rintro e w2 ⟨rfl, rfl⟩
        go_wp2_with fail
        refine (prev_f _ wn _).mono ?_
        rintro e w2 ⟨rfl, rfl⟩
        go_wp2_with fail
        refine (C _).mono ?_
        rintro e w2 ⟨rfl, rfl⟩
        go_wp2_with fail
        refine (U _).mono ?_
        rintro e w2 ⟨rfl, rfl⟩
        go_wp2_with fail
        refine (L _).mono ?_
        rintro e w2 ⟨rfl, rfl⟩
        go_wp2_with fail
        go_ret
        exact ⟨rfl, HB.out⟩
      · have L2 := fun w => less_any g (fNx f) hg wn w
        rw [B4.out g hq] at L2
        rw [hq] at L
        go_enter Tryd.func7, Tryd.ntmps7
        go_wp2_with fail
        refine (works4 w hT).mono ?_
        rintro e w1 ⟨rfl, hb⟩
        have HB := Lib.hid hb
        clear hb
        go_wp2_with fail
        refine (class_any _ hf _).mono ?_
        rintro e w2 ⟨rfl, rfl⟩
        go_wp2_with fail
        refine (inf_f false _).mono ?_
        rw [show 9218868437227405312 + sg false = 9218868437227405312 by decide]
        rintro e w2 ⟨rfl, rfl⟩
        go_wp2_with fail
        refine (next_f _ hf _).mono ?_
        rintro e w2 ⟨rfl, rfl⟩
        go_wp2_with fail
        refine (prev_f _ wn _).mono ?_
        rintro e w2 ⟨rfl, rfl⟩
        go_wp2_with fail
        refine (C _).mono ?_
        rintro e w2 ⟨rfl, rfl⟩
        go_wp2_with fail
        refine (U _).mono ?_
        rintro e w2 ⟨rfl, rfl⟩
        go_wp2_with fail
        refine (L _).mono ?_
        rintro e w2 ⟨rfl, rfl⟩
        go_wp2_with fail
        refine (L2 _).mono ?_
        rintro e w2 ⟨rfl, rfl⟩
        go_wp2_with fail
        go_ret
        exact ⟨rfl, HB.out⟩
end Go.Proofs.YtnicecpmpnhmfaaDoor
