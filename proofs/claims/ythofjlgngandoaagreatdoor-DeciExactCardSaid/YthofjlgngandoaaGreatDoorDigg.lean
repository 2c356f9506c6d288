/-
  Contract of deci.Digits, and what is known of the digits of a float: they are read as it. Conditions: the float is a word; the listed tables stand.
-/
import Derived.Test.YthofjlgngandoaaGreatDoorDigf
import Derived.Test.YthofjlgngandoaaGreatDoorPlan
namespace Go.Proofs.YthofjlgngandoaaGreatDoor
open Go.RowKit
set_option maxRecDepth 100000

/-- The digits of a float: a number and the power at which it is taken; without the noughts at their end, and the power that the last one counts. -/
def dgA (f : Int) : Nat × Int := shR (fAb f) (exW (fX (fAb f)) (fY (fAb f))) (exE (fX (fAb f)) (fY (fAb f))) (exR (fX (fAb f)) (fY (fAb f))) (decF 20 (exW (fX (fAb f)) (fY (fAb f)))).length 17
def dgD (f : Int) : List UInt8 := if fC f = 1 ∨ fC f = 2 then dcD (dgA f).1 else []
def dgQ (f : Int) : Int := if fC f = 1 ∨ fC f = 2 then dcE (dgA f).1 (dgA f).2 else 0
theorem nd_F {x : Nat} (h : x < 18446744073709551616) : (decF 20 x).length = Lib.nDigits x := by rw [← dec20 h, Lib.decDigits_length]
theorem sh_good {f : Int} {W : Nat} {x : Int} {r : Bool} {s : Nat} (hs : 18 ≤ s) (hs' : s ≤ 19) (lo : 10 ^ (s - 1) ≤ W) (hi : W < 10 ^ s) (hx : -400 ≤ x) (hx' : x ≤ 400)
    (hl : nearV (dcD (arA W r (s - 17))) (dcE (arA W r (s - 17)) (x + ((s - 17 : Nat) : Int))) = f) : ∀ m : Nat, m ≤ 16 →
    0 < (shR f W x r s (m + 1)).1 ∧ (shR f W x r s (m + 1)).1 ≤ 100000000000000000 ∧ -400 ≤ (shR f W x r s (m + 1)).2 ∧ (shR f W x r s (m + 1)).2 ≤ 420 ∧
      nearV (dcD (shR f W x r s (m + 1)).1) (dcE (shR f W x r s (m + 1)).1 (shR f W x r s (m + 1)).2) = f := by
  have bd : ∀ m : Nat, m ≤ 16 → (0 < arA W r (s - 17 + m) ∧ arA W r (s - 17 + m) ≤ 100000000000000000) ∧ (0 < arB W r (s - 17 + m) ∧ arB W r (s - 17 + m) ≤ 100000000000000000) := by
    intro m hm
    have p1 : 10 ^ (s - 17 + m) ≤ 10 ^ (s - 1) := Nat.pow_le_pow_right (by decide) (by omega)
    have p2 : 10 ^ s ≤ 10 ^ (s - 17 + m + 17) := Nat.pow_le_pow_right (by decide) (by omega)
    exact ar_bd r (by omega) (by omega)
  intro m
  induction m with
  | zero =>
    intro _
    have b := (bd 0 (by omega)).1
    rw [Nat.add_zero] at b
    have e : shR f W x r s (0 + 1) = (arA W r (s - 17), x + ((s - 17 : Nat) : Int)) := by
      show (if nearV (dcD (arA W r (s - 17 + 0))) (dcE (arA W r (s - 17 + 0)) (x + ((s - 17 + 0 : Nat) : Int))) == f then (arA W r (s - 17 + 0), x + ((s - 17 + 0 : Nat) : Int)) else _) = _
      rw [Nat.add_zero, hl, if_pos (by simp)]
    rw [e]
    exact ⟨b.1, b.2, by show -400 ≤ x + ((s - 17 : Nat) : Int); omega, by show x + ((s - 17 : Nat) : Int) ≤ 420; omega, hl⟩
  | succ m ih =>
    intro hm
    have b := bd (m + 1) (by omega)
    have e : shR f W x r s (m + 1 + 1) = (if nearV (dcD (arA W r (s - 17 + (m + 1)))) (dcE (arA W r (s - 17 + (m + 1))) (x + ((s - 17 + (m + 1) : Nat) : Int))) == f then (arA W r (s - 17 + (m + 1)), x + ((s - 17 + (m + 1) : Nat) : Int))
        else if nearV (dcD (arB W r (s - 17 + (m + 1)))) (dcE (arB W r (s - 17 + (m + 1))) (x + ((s - 17 + (m + 1) : Nat) : Int))) == f then (arB W r (s - 17 + (m + 1)), x + ((s - 17 + (m + 1) : Nat) : Int))
        else shR f W x r s (m + 1)) := rfl
    rw [e]
    split
    · rename_i h
      exact ⟨b.1.1, b.1.2, by show -400 ≤ x + ((s - 17 + (m + 1) : Nat) : Int); omega, by show x + ((s - 17 + (m + 1) : Nat) : Int) ≤ 420; omega, by simpa using h⟩
    · split
      · rename_i h
        exact ⟨b.2.1, b.2.2, by show -400 ≤ x + ((s - 17 + (m + 1) : Nat) : Int); omega, by show x + ((s - 17 + (m + 1) : Nat) : Int) ≤ 420; omega, by simpa using h⟩
      · exact ih (by omega)
/-- A float that is neither nought, nor infinite, nor a NaN; its magnitude. -/
theorem ab_fin {f : Int} (hf : Word f) (hc : fC f = 1 ∨ fC f = 2) : fAb f = f % 9223372036854775808 ∧ 0 < fAb f ∧ fAb f ≤ 9218868437227405311 ∧ fC (fAb f) = fC f ∧ 0 < fX (fAb f) ∧ fY (fAb f) ≤ 971 := by
  have e : fAb f = f % 9223372036854775808 := by unfold fAb; rw [if_neg (by omega)]
  rw [e]
  have hf0 := hf.1
  have hf1 := hf.2
  have eE : fE (f % 9223372036854775808) = fE f := by unfold fE; omega
  have eM : fM (f % 9223372036854775808) = fM f := by unfold fM; omega
  have eC : fC (f % 9223372036854775808) = fC f := by unfold fC; rw [eE, eM]
  have dE : fE f = f % 9223372036854775808 / 4503599627370496 := by unfold fE; omega
  have dM : fM f = f % 9223372036854775808 % 4503599627370496 := by unfold fM; omega
  have bE : fE f ≤ 2046 ∧ (fC f = 1 → fM f ≠ 0 ∧ fE f = 0) ∧ (fC f = 2 → fE f ≠ 0) := by
    have b0 : 0 ≤ fE f ∧ fE f < 2048 := by unfold fE; omega
    unfold fC at hc ⊢
    by_cases h : fE f = 2047
    · rw [if_pos h] at hc
      split at hc <;> omega
    · rw [if_neg h] at hc ⊢
      by_cases h0 : fE f = 0
      · rw [if_pos h0] at hc ⊢
        by_cases h1 : fM f = 0
        · rw [if_pos h1] at hc
          omega
        · rw [if_neg h1]
          exact ⟨by omega, fun _ => ⟨h1, h0⟩, fun h => by omega⟩
      · rw [if_neg h0]
        exact ⟨by omega, fun h => by omega, fun _ => h0⟩
  have bM : 0 ≤ fM f ∧ fM f < 4503599627370496 := by unfold fM; omega
  refine ⟨rfl, ?_, ?_, eC, ?_, ?_⟩
  · rcases hc with h | h
    · have := bE.2.1 h; omega
    · have := bE.2.2 h; omega
  · omega
  · unfold fX
    rw [eC, eM]
    rcases hc with h | h
    · rw [if_neg (by omega), if_pos h]
      have := (bE.2.1 h).1
      omega
    · rw [if_pos h]
      omega
  · unfold fY
    rw [eC, eE]
    rcases hc with h | h
    · rw [if_neg (by omega), if_pos h]
      decide
    · rw [if_pos h]
      omega
/-- What is known of the digits of a float. -/
theorem dg_known {f : Int} (hf : Word f) (hc : fC f = 1 ∨ fC f = 2) : digB (dgD f) = true ∧ (dgD f).length ≤ 17 ∧ -900 ≤ dgQ f ∧ dgQ f ≤ 900 ∧ nearV (dgD f) (dgQ f) = fAb f := by
  obtain ⟨-, a0, a1, ac, ax, ay⟩ := ab_fin hf hc
  obtain ⟨s1, s2, lr⟩ := last_reads a0 a1 (by omega) ax
  have yb := fY_bd (fAb f)
  obtain ⟨w0, w1⟩ := exW_bd ax (fX_bd (f := fAb f)).2 yb.1 ay
  have t := ex_t ax (fX_bd (f := fAb f)).2 yb.1 ay
  have lb := lg_bd t.1 t.2
  have eb : -400 ≤ exE (fX (fAb f)) (fY (fAb f)) ∧ exE (fX (fAb f)) (fY (fAb f)) ≤ 400 := by unfold exE; omega
  have lo := nd_low (x := exW (fX (fAb f)) (fY (fAb f))) (by omega)
  have hi := Lib.lt_pow_nDigits (exW (fX (fAb f)) (fY (fAb f)))
  have G := sh_good (f := fAb f) s1 s2 lo hi eb.1 eb.2 lr 16 (by decide)
  have eA : dgA f = shR (fAb f) (exW (fX (fAb f)) (fY (fAb f))) (exE (fX (fAb f)) (fY (fAb f))) (exR (fX (fAb f)) (fY (fAb f))) (Lib.nDigits (exW (fX (fAb f)) (fY (fAb f)))) (16 + 1) := by
    unfold dgA
    rw [nd_F (by omega)]
  rw [← eA] at G
  obtain ⟨g0, g1, g2, g3, g4⟩ := G
  unfold dgD dgQ
  rw [if_pos hc, if_pos hc]
  have de := dcE_bd (x := (dgA f).1) (by omega) (dgA f).2
  exact ⟨(dc_dig (by omega) g0).1, dc_len g1, by omega, by omega, g4⟩
set_option maxHeartbeats 8000000 in
theorem digits_any (f : Int) (hf : Word f) (w : World) (hE : EnvOk w) :
    Calls Tryz.prog 17 #[.int .u64 f] w fun x w' => x = .returned (.tuple #[.string ⟨(dgD f).toArray⟩, .int .i64 (dgQ f)]) ∧ Below w.heap.size w w' := by
  have CL := Lib.hid fun w => class_any f hf w
  have hmf : ∀ (fn : Fn) (first cap : Array Value) (w : World), (Instr.makeFunc fn first cap).run Tryz.prog w = .ok (.func fn first cap) w := fun _ _ _ _ => rfl
  by_cases hc : fC f = 1 ∨ fC f = 2
  · obtain ⟨-, a0, a1, ac, ax, ay⟩ := ab_fin hf hc
    obtain ⟨s1, s2, lr⟩ := last_reads a0 a1 (by omega) ax
    have yb := fY_bd (fAb f)
    obtain ⟨w0, w1⟩ := exW_bd ax (fX_bd (f := fAb f)).2 yb.1 ay
    have t := ex_t ax (fX_bd (f := fAb f)).2 yb.1 ay
    have lb := lg_bd t.1 t.2
    have eb : -400 ≤ exE (fX (fAb f)) (fY (fAb f)) ∧ exE (fX (fAb f)) (fY (fAb f)) ≤ 400 := by unfold exE; omega
    have AB := Lib.hid fun w => abs_f f hf w
    have EX := Lib.hid fun w => expand_any (fAb f) ⟨by omega, by omega⟩ ax ay w
    have SH := Lib.hid fun g w hc hE => shortest_any (fAb f) (exW (fX (fAb f)) (fY (fAb f))) (exE (fX (fAb f)) (fY (fAb f))) (exR (fX (fAb f)) (fY (fAb f))) g w w0 w1 eb.1 eb.2 s1 s2 lr hc hE
    have eA : dgA f = shR (fAb f) (exW (fX (fAb f)) (fY (fAb f))) (exE (fX (fAb f)) (fY (fAb f))) (exR (fX (fAb f)) (fY (fAb f))) (Lib.nDigits (exW (fX (fAb f)) (fY (fAb f)))) 17 := by
      unfold dgA
      rw [nd_F (by omega)]
    rw [← eA] at SH
    have eD : dcD (dgA f).1 = dgD f := by unfold dgD; rw [if_pos hc]
    have eQ : dcE (dgA f).1 (dgA f).2 = dgQ f := by unfold dgQ; rw [if_pos hc]
    rw [eD, eQ] at SH
    clear a0 a1 ac ax ay s1 s2 lr yb w0 w1 t lb eb eA eD eQ
    generalize (⟨(dgD f).toArray⟩ : ByteArray) = d at *
    generalize dgQ f = q at *
    generalize exW (fX (fAb f)) (fY (fAb f)) = W at *
    generalize exE (fX (fAb f)) (fY (fAb f)) = E at *
    generalize exR (fX (fAb f)) (fY (fAb f)) = R at *
    generalize fAb f = a at *
    have hb : (fC f == 1) = true ∨ (fC f == 1) = false ∧ (fC f == 2) = true := by
      rcases hc with h | h
      · left; rw [h]; rfl
      · right; rw [h]; exact ⟨rfl, rfl⟩
    clear hc
    generalize fC f = c at *
    go_enter Tryz.func17, Tryz.ntmps17
    go_wp2_with fail
    refine (CL.out _).mono ?_
    rintro x w1 ⟨rfl, rfl⟩
    rcases hb with h | ⟨h, k⟩
    all_goals
      clear CL
      go_wp2_with fail
      refine (AB.out _).mono ?_
      rintro x w2 ⟨rfl, rfl⟩
      go_wp2_with fail
      refine (EX.out _).mono ?_
      rintro x w3 ⟨v3, rfl, rfl, hb3⟩
      have cg : w3.cell? ⟨w.heap.size, 0, none⟩ = some (.int .u64 a) := (Blk.made hb3).cell 0
      have HB3 := Lib.hid (bel_trans (bel_alloc (Below.refl w.heap.size w) (.cells #[.int .u64 a] 37)) hb3)
      clear hb3 EX AB
      go_wp2_with fail
      refine (SH.out _ _ cg (hE.below HB3.out)).mono ?_
      rintro x w4 ⟨v4, rfl, rfl, hb4⟩
      have K4 := Blk.new w4 70 #[.string d, .int .i64 q]
      have HB4 := Lib.hid (bel_alloc (bel_trans HB3.out hb4) (.cells #[.string d, .int .i64 q] 70))
      clear hb4 HB3 cg SH hE
      go_upto_region 6 with fail
      obtain ⟨w5, hw5⟩ : ∃ v, v = w4.alloc (.cells #[.string d, .int .i64 q] 70) := ⟨_, rfl⟩
      rw [← hw5] at K4 HB4 ⊢
      clear hw5
      generalize w4.heap.size = b at *
      obtain ⟨c0, c1, -, -⟩ := K4.two
      have HK : Hid (∀ w', Below w5.heap.size w5 w' → (w'.cell? ⟨b, 0, none⟩ = some (.string d) ∧ w'.cell? ⟨b, 1, none⟩ = some (.int .i64 q))) := fun w' hb => kpd2 hb c0 c1
      clear c0 c1
      refine region_plan (S := fun w' => w'.cell? ⟨b, 0, none⟩ = some (.string d) ∧ w'.cell? ⟨b, 1, none⟩ = some (.int .i64 q)) _ [(0, true), (1, true), (2, true), (3, true), (4, true), (5, true)] (by kernel_rfl) (by kernel_rfl) rfl (by kernel_rfl) (by kernel_rfl) (fun _ _ d _ _ h => by cases d <;> exact h) (HK.out _ (bel_drew (Below.refl _ _))) ?_
      refine Walk.take (v := ?_) rfl (by rfl) ?_ ?_
      rotate_left
      · (intro w' hSw; (try dsimp only at hSw); go_simp <;> with_reducible rfl)
      try simp only [Act.put, List.setIfInBounds_toArray, List.set_cons_zero, List.set_cons_succ]
      refine Walk.take (v := ?_) rfl (by rfl) ?_ ?_
      rotate_left
      · (intro w' hSw; (try dsimp only at hSw); go_simp <;> with_reducible rfl)
      try simp only [Act.put, List.setIfInBounds_toArray, List.set_cons_zero, List.set_cons_succ]
      refine Walk.take (v := ?_) rfl (by rfl) ?_ ?_
      rotate_left
      · (intro w' hSw; (try dsimp only at hSw); go_simp <;> with_reducible rfl)
      try simp only [Act.put, List.setIfInBounds_toArray, List.set_cons_zero, List.set_cons_succ]
      refine Walk.take (v := ?_) rfl (by rfl) ?_ ?_
      rotate_left
      · (intro w' hSw; (try dsimp only at hSw); go_simp <;> with_reducible rfl)
      try simp only [Act.put, List.setIfInBounds_toArray, List.set_cons_zero, List.set_cons_succ]
      refine Walk.take (v := ?_) rfl (by rfl) ?_ ?_
      rotate_left
      · (intro w' hSw; (try dsimp only at hSw); go_simp <;> with_reducible rfl)
      try simp only [Act.put, List.setIfInBounds_toArray, List.set_cons_zero, List.set_cons_succ]
      refine Walk.take (v := ?_) rfl (by rfl) ?_ ?_
      rotate_left
      · (intro w' hSw; (try dsimp only at hSw); go_simp <;> with_reducible rfl)
      try simp only [Act.put, List.setIfInBounds_toArray, List.set_cons_zero, List.set_cons_succ]
      refine Walk.done ?_
      clear HK
      have HB9 := Lib.hid (bel_drew HB4.out)
      go_wp2_with fail
      go_ret2
      exact ⟨rfl, HB9.out⟩
  · have h1 : (fC f == 1) = false := by simp; omega
    have h2 : (fC f == 2) = false := by simp; omega
    have eD : dgD f = [] := by unfold dgD; rw [if_neg hc]
    have eQ : dgQ f = 0 := by unfold dgQ; rw [if_neg hc]
    rw [eD, eQ]
    clear hc eD eQ
    generalize fC f = c at *
    go_enter Tryz.func17, Tryz.ntmps17
    go_wp2_with fail
    refine (CL.out _).mono ?_
    rintro x w1 ⟨rfl, rfl⟩
    go_wp2_with fail
    go_ret2
    exact ⟨rfl, Below.refl _ _⟩
end Go.Proofs.YthofjlgngandoaaGreatDoor
