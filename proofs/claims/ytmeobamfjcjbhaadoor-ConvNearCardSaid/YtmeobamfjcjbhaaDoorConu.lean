/-
  Contracts of layer 7's truncate, ToInt32 and ToInt64. Conditions: floats are words; the least integer is that of 32 or of 64 bits.
-/
import Derived.Test.YtmeobamfjcjbhaaDoorConv
namespace Go.Proofs.YtmeobamfjcjbhaaDoor
open Go.RowKit
set_option maxRecDepth 100000

/-- A call came back with an integer and flags. -/
def RetI (k : IntKind) (x g : Int) (w : World) (e : Ending) (w' : World) : Prop := e = .returned (.tuple #[.int k x, .int .u8 g]) ∧ Below w.heap.size w w'
theorem ng_int {W : Int} (h : IsI W) (s : Bool) : fNg (iF s W) = iF (!s) W := by
  obtain ⟨-, b, c, -⟩ := iF_parts h s
  obtain ⟨k, h0, h1, h2⟩ := h
  rw [iF_key h0 h1 h2] at *
  rw [iF_key h0 h1 h2]
  unfold fNg
  rw [if_neg (by omega), c]
  cases s <;> simp [sg]
def tMd (s : Bool) : Int := if s then 1 else 2
theorem whole_trunc (f : Int) : vW (tMd (fS f)) f = vT f := by
  have : awH (tMd (fS f)) (fS f) (vT f) (vR f) dD = false := by
    unfold tMd awH
    cases fS f <;> simp
  unfold vW
  rw [this]
  show vT f + 0 = vT f
  omega
theorem least_int {c : Int} (hc : c = 2147483648 ∨ c = 9223372036854775808) : IsI c ∧ fiF 0 (-c) = iF true c := by
  refine ⟨?_, ?_⟩
  · rcases hc with rfl | rfl
    · exact isI_of (X := 1) (i := 31) (by decide) (by decide) (by decide)
    · exact isI_of (X := 1) (i := 63) (by decide) (by decide) (by decide)
  · unfold fiF iF
    rw [decide_eq_true (by omega : -c < 0), show ((-c).natAbs : Int) = c by omega]
theorem tBad_fin {c f : Int} (h : fC f < 3) : tBad c f = (decide (sv (fS f) (vT f) < -c) || !decide (sv (fS f) (vT f) < c)) ∨ c ≤ 0 := by
  rcases Int.lt_or_le 0 c with k | k
  · left
    have t0 := vT_nn f
    unfold tBad sv
    rw [decide_eq_false (by omega : ¬ 3 ≤ fC f)]
    rw [Bool.eq_iff_iff]
    cases fS f
    · simp
      omega
    · simp
      omega
  · exact .inr k

set_option maxHeartbeats 8000000 in
theorem vtrunc_any (f c : Int) (hf : Word f) (hc : c = 2147483648 ∨ c = 9223372036854775808) (w : World) : Calls Tryd.prog 18 #[.int .u64 f, .int .i64 (-c)] w (RetI .i64 (toX c f) (toG c f) w) := by
  have CF := Lib.hid (class_any f hf)
  have NF := Lib.hid (vneg_any f hf)
  have ZF := vzero_any f hf
  rw [show (if fS f then (1 : Int) else 2) = tMd (fS f) from rfl] at ZF
  have ZF := Lib.hid ZF
  have WF := Lib.hid (vwhole_any f (tMd (fS f)) hf)
  obtain ⟨ic, fc⟩ := least_int hc
  have IF := fun w => vfrom_any (-c) 0 (by omega) (by omega) w
  rw [fc] at IF
  have IF := Lib.hid IF
  have cb := cls_bd f
  by_cases h3 : 3 ≤ fC f
  · have e0 : tBad c f = true := by unfold tBad; rw [decide_eq_true h3]; rfl
    have e1 : toX c f = 0 := by unfold toX; rw [e0]; rfl
    have e2 : toG c f = 16 := by unfold toG; rw [e0]; rfl
    rw [e1, e2]
    clear e0 e1 e2 fc
    generalize fiG 0 (-c) = gg at *
    generalize iF true c = F0 at *
    generalize whF (tMd (fS f)) f = F at *
    generalize whG f = G at *
    generalize fS f = s at *
    by_cases h4 : fC f = 4
    · rw [h4] at CF
      clear h4 h3 cb
      go_enter Tryd.func18, Tryd.ntmps18
      go_wp2_with fail
      refine (ZF.out _).mono ?_
      rintro e w1 ⟨rfl, rfl⟩
      go_wp2_with fail
      refine (WF.out _).mono ?_
      rintro e w2 ⟨rfl, hb2⟩
      go_wp2_with fail
      refine (IF.out _).mono ?_
      rintro e w3 ⟨rfl, hb3⟩
      have HB := Lib.hid (bel_trans hb2 hb3)
      clear hb2 hb3
      go_wp2_with fail
      refine (CF.out _).mono ?_
      rintro e w1 ⟨rfl, rfl⟩
      go_wp2_with fail
      go_ret2
      exact ⟨rfl, HB.out⟩
    · have h5 : fC f = 3 := by omega
      rw [h5] at CF
      clear h4 h3 cb h5
      go_enter Tryd.func18, Tryd.ntmps18
      go_wp2_with fail
      refine (ZF.out _).mono ?_
      rintro e w1 ⟨rfl, rfl⟩
      go_wp2_with fail
      refine (WF.out _).mono ?_
      rintro e w2 ⟨rfl, hb2⟩
      go_wp2_with fail
      refine (IF.out _).mono ?_
      rintro e w3 ⟨rfl, hb3⟩
      have HB := Lib.hid (bel_trans hb2 hb3)
      clear hb2 hb3
      go_wp2_with fail
      refine (CF.out _).mono ?_
      rintro e w1 ⟨rfl, rfl⟩
      go_wp2_with fail
      refine (CF.out _).mono ?_
      rintro e w1 ⟨rfl, rfl⟩
      go_wp2_with fail
      go_ret2
      exact ⟨rfl, HB.out⟩
  · have hfin : fC f < 3 := by omega
    have t4 : (fC f == 4) = false := by simp; omega
    have t3 : (fC f == 3) = false := by simp; omega
    have hW : whF (tMd (fS f)) f = iF (fS f) (vT f) := by unfold whF; rw [if_neg (by omega), if_neg (by omega), whole_trunc]
    rw [hW] at WF
    have iT := vT_int hf hfin
    obtain ⟨wT, -⟩ := iF_parts iT (fS f)
    obtain ⟨wC, -⟩ := iF_parts ic true
    obtain ⟨wD, -⟩ := iF_parts ic false
    have L1 := fun w => less_any (iF (fS f) (vT f)) (iF true c) wT wC w
    rw [less_int iT ic] at L1
    have L2 := fun w => less_any (iF (fS f) (vT f)) (iF false c) wT wD w
    rw [less_int iT ic] at L2
    rw [show sv true c = -c from rfl] at L1
    rw [show sv false c = c from rfl] at L2
    have NG := fun w => neg_f (iF true c) wC w
    rw [ng_int ic, show (!true) = false from rfl] at NG
    have hB := (tBad_fin (c := c) hfin).resolve_right (by omega)
    have t0 := vT_nn f
    have hG : whG f = if vR f = 0 then 0 else 1 := by unfold whG; rw [if_neg h3]
    rw [hG] at WF
    have J1 := Lib.hid L1
    have J2 := Lib.hid L2
    have NJ := Lib.hid NG
    clear fc hG hW L1 L2 NG
    by_cases q1 : sv (fS f) (vT f) < -c
    · have e0 : tBad c f = true := by rw [hB, decide_eq_true q1]; rfl
      have e1 : toX c f = 0 := by unfold toX; rw [e0]; rfl
      have e2 : toG c f = 16 := by unfold toG; rw [e0]; rfl
      rw [e1, e2]
      rw [decide_eq_true q1] at J1
      clear e0 e1 e2 J2 NJ hB iT q1
      generalize (if vR f = 0 then (0 : Int) else 1) = G at *
      generalize fiG 0 (-c) = gg at *
      generalize iF true c = F0 at *
      generalize iF (fS f) (vT f) = F at *
      generalize fC f = C at *
      generalize fS f = s at *
      go_enter Tryd.func18, Tryd.ntmps18
      go_wp2_with fail
      refine (ZF.out _).mono ?_
      rintro e w1 ⟨rfl, rfl⟩
      go_wp2_with fail
      refine (WF.out _).mono ?_
      rintro e w2 ⟨rfl, hb2⟩
      go_wp2_with fail
      refine (IF.out _).mono ?_
      rintro e w3 ⟨rfl, hb3⟩
      have HB := Lib.hid (bel_trans hb2 hb3)
      clear hb2 hb3
      go_wp2_with fail
      refine (CF.out _).mono ?_
      rintro e w1 ⟨rfl, rfl⟩
      go_wp2_with fail
      refine (CF.out _).mono ?_
      rintro e w1 ⟨rfl, rfl⟩
      go_wp2_with fail
      refine (J1.out _).mono ?_
      rintro e w1 ⟨rfl, rfl⟩
      go_wp2_with fail
      go_ret2
      exact ⟨rfl, HB.out⟩
    by_cases q2 : sv (fS f) (vT f) < c
    · have e0 : tBad c f = false := by rw [hB, decide_eq_false q1, decide_eq_true q2]; rfl
      have e1 : toX c f = sv (fS f) (vT f) := by unfold toX; rw [e0]; rfl
      have e2 : toG c f = if vR f = 0 then 0 else 1 := by unfold toG; rw [e0]; rfl
      rw [e1, e2]
      rw [decide_eq_false q1] at J1
      rw [decide_eq_true q2] at J2
      have hT : vT f ≤ 9223372036854775808 ∧ (fS f = false → vT f < 9223372036854775808) := by
        unfold sv at q1 q2
        cases hs : fS f
        · rw [hs] at q1 q2
          simp at q1 q2
          omega
        · rw [hs] at q1 q2
          simp at q1 q2
          exact ⟨by omega, fun k => by cases k⟩
      have P := int_split iT (by omega) (fS f)
      unfold pA at P
      have SP := Lib.hid (split_any _ wT)
      have yb := fY_bd (iF (fS f) (vT f))
      have wX := fX_word (iF (fS f) (vT f))
      have HP := Lib.hid P
      clear e0 e1 e2 hB iT q1 q2 P
      generalize (if vR f = 0 then (0 : Int) else 1) = G at *
      generalize fiG 0 (-c) = gg at *
      generalize iF true c = F0 at *
      generalize iF false c = F1 at *
      generalize fX (iF (fS f) (vT f)) = X at *
      generalize fY (iF (fS f) (vT f)) = Y at *
      generalize iF (fS f) (vT f) = F at *
      generalize fC f = C at *
      generalize vT f = T at *
      generalize fS f = s at *
      go_enter Tryd.func18, Tryd.ntmps18
      go_wp2_with fail
      refine (ZF.out _).mono ?_
      rintro e w1 ⟨rfl, rfl⟩
      go_wp2_with fail
      refine (WF.out _).mono ?_
      rintro e w2 ⟨rfl, hb2⟩
      go_wp2_with fail
      refine (IF.out _).mono ?_
      rintro e w3 ⟨rfl, hb3⟩
      have HB := Lib.hid (bel_trans hb2 hb3)
      clear hb2 hb3
      go_wp2_with fail
      refine (CF.out _).mono ?_
      rintro e w1 ⟨rfl, rfl⟩
      go_wp2_with fail
      refine (CF.out _).mono ?_
      rintro e w1 ⟨rfl, rfl⟩
      go_wp2_with fail
      refine (J1.out _).mono ?_
      rintro e w1 ⟨rfl, rfl⟩
      go_wp2_with fail
      refine (NJ.out _).mono ?_
      rintro e w1 ⟨rfl, rfl⟩
      go_wp2_with fail
      refine (J2.out _).mono ?_
      rintro e w1 ⟨rfl, rfl⟩
      go_wp2_with fail
      refine (SP.out _).mono ?_
      rintro e w1 ⟨rfl, rfl⟩
      go_wp2_with fail
      refine (shl2 0 X Y ⟨by decide, by decide⟩ wX (by omega) _).mono ?_
      rintro e w5 ⟨v5, ⟨h5, l5, wh5, wl5, hv5, rfl⟩, rfl, hb5⟩
      rw [V2_low] at hv5
      have HB5 := Lib.hid (bel_trans HB.out hb5)
      clear hb5 HB
      go_wp2_with fail
      refine (shr2 h5 l5 (-Y) wh5 wl5 (by omega) _).mono ?_
      rw [hv5]
      generalize decide (shlV2 X Y.toNat % 2 ^ (-Y).toNat ≠ 0) = lost at *
      rintro e w6 ⟨v6, ⟨h6, l6, wh6, wl6, hv6, rfl⟩, rfl, hb6⟩
      rw [HP.out] at hv6
      have HB6 := Lib.hid (bel_trans HB5.out hb6)
      clear hb6 HB5 hv5 HP
      have z1 : h6 = 0 := by unfold V2 at hv6; have := wh6.1; have := wl6.1; omega
      have z2 : l6 = T := by unfold V2 at hv6; omega
      clear hv6
      subst z1 z2
      go_wp2_with fail
      refine (NF.out _).mono ?_
      rintro e w7 ⟨rfl, rfl⟩
      clear NF hf hc
      cases s
      · go_wp2_with fail
        go_ret2
        refine ⟨ret_two ?_ rfl, bel_alloc HB6.out _⟩
        exact wrap64_in (by omega) (by have := hT.2; simp at this; omega)
      · go_wp2_with fail
        go_ret2
        refine ⟨ret_two ?_ rfl, bel_alloc HB6.out _⟩
        show _ = -l6
        simp only [IntKind.wrap_u64, wrap64]
        omega
    · have e0 : tBad c f = true := by rw [hB, decide_eq_false q1, decide_eq_false q2]; rfl
      have e1 : toX c f = 0 := by unfold toX; rw [e0]; rfl
      have e2 : toG c f = 16 := by unfold toG; rw [e0]; rfl
      rw [e1, e2]
      rw [decide_eq_false q1] at J1
      rw [decide_eq_false q2] at J2
      clear e0 e1 e2 hB iT q1
      generalize (if vR f = 0 then (0 : Int) else 1) = G at *
      generalize fiG 0 (-c) = gg at *
      generalize iF true c = F0 at *
      generalize iF false c = F1 at *
      generalize iF (fS f) (vT f) = F at *
      generalize fC f = C at *
      generalize fS f = s at *
      go_enter Tryd.func18, Tryd.ntmps18
      go_wp2_with fail
      refine (ZF.out _).mono ?_
      rintro e w1 ⟨rfl, rfl⟩
      go_wp2_with fail
      refine (WF.out _).mono ?_
      rintro e w2 ⟨rfl, hb2⟩
      go_wp2_with fail
      refine (IF.out _).mono ?_
      rintro e w3 ⟨rfl, hb3⟩
      have HB := Lib.hid (bel_trans hb2 hb3)
      clear hb2 hb3
      go_wp2_with fail
      refine (CF.out _).mono ?_
      rintro e w1 ⟨rfl, rfl⟩
      go_wp2_with fail
      refine (CF.out _).mono ?_
      rintro e w1 ⟨rfl, rfl⟩
      go_wp2_with fail
      refine (J1.out _).mono ?_
      rintro e w1 ⟨rfl, rfl⟩
      go_wp2_with fail
      refine (NJ.out _).mono ?_
      rintro e w1 ⟨rfl, rfl⟩
      go_wp2_with fail
      refine (J2.out _).mono ?_
      rintro e w1 ⟨rfl, rfl⟩
      go_wp2_with fail
      go_ret2
      exact ⟨rfl, HB.out⟩

theorem toX_bd {c f : Int} (hc : 0 < c) : -c ≤ toX c f ∧ toX c f < c := by
  have t0 := vT_nn f
  unfold toX
  by_cases h : tBad c f = true
  · rw [if_pos h]
    omega
  · rw [if_neg h]
    unfold tBad at h
    unfold sv
    cases hs : fS f
    · rw [hs] at h
      simp at h ⊢
      omega
    · rw [hs] at h
      simp at h ⊢
      omega
theorem vto32_any (f : Int) (hf : Word f) (w : World) : Calls Tryd.prog 13 #[.int .u64 f] w (RetI .i32 (toX 2147483648 f) (toG 2147483648 f) w) := by
  have T := Lib.hid (vtrunc_any f 2147483648 hf (.inl rfl))
  have b := toX_bd (c := 2147483648) (f := f) (by decide)
  generalize toX 2147483648 f = X at *
  generalize toG 2147483648 f = G at *
  go_enter Tryd.func13, Tryd.ntmps13
  go_wp2_with fail
  refine (T.out _).mono ?_
  rintro e w1 ⟨rfl, hb⟩
  go_wp2_with fail
  go_ret2
  exact ⟨rfl, hb⟩
theorem vto64_any (f : Int) (hf : Word f) (w : World) : Calls Tryd.prog 7 #[.int .u64 f] w (RetI .i64 (toX 9223372036854775808 f) (toG 9223372036854775808 f) w) := by
  have T := Lib.hid (vtrunc_any f 9223372036854775808 hf (.inr rfl))
  generalize toX 9223372036854775808 f = X at *
  generalize toG 9223372036854775808 f = G at *
  go_enter Tryd.func7, Tryd.ntmps7
  go_wp2_with fail
  refine (T.out _).mono ?_
  rintro e w1 ⟨rfl, hb⟩
  go_wp2_with fail
  go_ret2
  exact ⟨rfl, hb⟩
end Go.Proofs.YtmeobamfjcjbhaaDoor
