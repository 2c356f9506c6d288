/-
  The contract of the law's agrees, and the walk of SoftExact: whatever floats and whatever mode are handed in, the law answers true. Conditions: floats are words; the table of math/bits stands in its variable.
-/
import Derived.Test.YtkdckclefegocaaGreatDoorMath6d
import Derived.Test.YtkdckclefegocaaGreatDoorWorks6
import Derived.Test.YtkdckclefegocaaGreatDoorIn
namespace Go.Proofs.YtkdckclefegocaaGreatDoor
open Go.RowKit
set_option maxRecDepth 100000

set_option maxHeartbeats 4000000 in
theorem agrees6_any {w : World} {x y z : Value} {L : Nat} {r : Rat} (h : RV w x y z L r) (hL : L ≤ 65536) (f g md : Int) (hf : Word f) (h0 : r = 0 → fC f = 0 ∧ g = 0) (h1 : r ≠ 0 → f = dF md r ∧ g = dG md r) :
    Calls Tryz.prog 9 #[.int .u64 f, .int .u8 g, .agg #[x, y, z], .int .u8 md] w fun e w' => e = .returned (.bool true) ∧ Below w.heap.size w w' := by
  obtain ⟨s, A, n, c, B, m, d, rfl, rfl, rfl⟩ := h.form
  by_cases hz : r = 0
  · obtain ⟨k0, rfl⟩ := h0 hz
    have CF := Lib.hid (fun w => class_any f hf w)
    rw [k0] at CF
    have t0 : sgn r = 0 := sgn_eq.2 hz
    have hs := fun W (hW : Below w.heap.size w W) => sign_any (h.below hW) (show L ≤ 1048576 by omega)
    rw [t0] at hs
    have HS := Lib.hid hs
    clear hs t0 h0 h1 hz k0 h
    go_enter Tryz.func9, Tryz.ntmps9
    go_wp2_with fail
    refine (HS.out _ (bel_alloc (Below.refl _ _) _)).mono ?_
    rintro e w1 ⟨rfl, hb1⟩
    have HB := Lib.hid (bel_trans (bel_alloc (Below.refl _ _) _) hb1)
    clear hb1
    go_wp2_with fail
    refine (CF.out _).mono ?_
    rintro e w2 ⟨rfl, rfl⟩
    go_wp2_with fail
    go_ret
    exact ⟨rfl, HB.out⟩
  · obtain ⟨rfl, rfl⟩ := h1 hz
    have t0 : (sgn r == 0) = false := by
      have : sgn r ≠ 0 := fun k => hz (sgn_eq.1 k)
      simp [this]
    have hs := fun W (hW : Below w.heap.size w W) => sign_any (h.below hW) (show L ≤ 1048576 by omega)
    have he := fun W (hW : Below w.heap.size w W) => exact_f (h.below hW) md hL
    have HS := Lib.hid hs
    have HE := Lib.hid he
    clear hs he h0 h1 hz h hf
    generalize sgn r = sr at *
    generalize dF md r = F at *
    generalize dG md r = G at *
    go_enter Tryz.func9, Tryz.ntmps9
    go_wp2_with fail
    refine (HS.out _ (bel_alloc (Below.refl _ _) _)).mono ?_
    rintro e w1 ⟨rfl, hb1⟩
    have K := (Blk.new w 29 #[.bool s, .slice A n c, .slice B m d]).below hb1 (Blk.new w 29 #[.bool s, .slice A n c, .slice B m d]).lt
    have HB := Lib.hid (bel_trans (bel_alloc (Below.refl _ _) _) hb1)
    clear hb1
    obtain ⟨c0, c1, c2, -, -, -⟩ := K.three
    go_wp2_with fail
    refine (HE.out _ HB.out).mono ?_
    rintro e w2 ⟨rfl, hb2⟩
    go_wp2_with fail
    go_ret
    exact ⟨rfl, bel_trans HB.out hb2⟩

theorem fin_nil {f : Int} (h : fC f < 3) : fV f = 0 ↔ fC f = 0 := by
  constructor
  · intro k
    rcases Decidable.em (fC f = 0) with h1 | h1
    · exact h1
    · have h2 := (fX_bd (f := f)).1
      have h3 := fX_fin h
      exact absurd k (fV_not (by omega))
  · intro k
    exact fV_nil ((fX_fin h).2 k)
theorem sg_zero (s : Bool) : fC (sg s) = 0 := by cases s <;> decide
theorem div_zero {x y : Rat} (hx : x ≠ 0) (hy : y ≠ 0) : x / y ≠ 0 := by
  rw [Rat.div_def]
  refine rat_mul_ne hx (fun k => ?_)
  have h := Rat.mul_inv_cancel y hy
  rw [k, Rat.mul_zero] at h
  exact absurd h (by decide)

set_option maxHeartbeats 8000000 in
theorem lexact_bad (a b md : Int) (w : World) (ha : Word a) (hb : Word b) (op oq : Bool) (hp : decide (fC a < 3) = op) (hq : decide (fC b < 3) = oq) (hn : op = false ∨ oq = false) (hT : TabOk w) :
    Calls Tryz.prog 3 #[.int .u64 a, .int .u64 b, .int .u8 md] w fun x w' => x = .returned (.bool true) ∧ Below w.heap.size w w' := by
  have VA := Lib.hid fun w hT => value_any a op ha hp w hT
  have VB := Lib.hid fun w hT => value_any b oq hb hq w hT
  have HN := Lib.hid hn
  clear hp hq hn
  go_enter Tryz.func3, Tryz.ntmps3
  go_wp2_with fail
  refine (works6 _).mono ?_
  rintro x w1 ⟨rfl, hb1⟩
  have HB1 := Lib.hid hb1
  clear hb1
  go_wp2_with fail
  refine (VA.out _ (hT.below HB1.out)).mono ?_
  rintro x w2 ⟨s2, A2, n2, c2, F2, m2, d2, rfl, -, h⟩
  have HB2 := Lib.hid (bel_alloc (bel_trans HB1.out h) (.cells #[.bool s2, .slice A2 n2 c2, .slice F2 m2 d2] 29))
  clear h HB1
  go_wp2_with fail
  refine (VB.out _ (hT.below HB2.out)).mono ?_
  rintro x w3 ⟨s3, A3, n3, c3, F3, m3, d3, rfl, -, h⟩
  have HB3 := Lib.hid (bel_alloc (bel_trans HB2.out h) (.cells #[.bool s3, .slice A3 n3 c3, .slice F3 m3 d3] 29))
  clear h HB2
  cases op
  · go_wp2_with fail
    go_ret
    exact ⟨rfl, HB3.out⟩
  · have := HN.out
    obtain rfl : oq = false := by simpa using this
    clear this
    go_wp2_with fail
    go_ret
    exact ⟨rfl, HB3.out⟩

set_option maxHeartbeats 16000000 in
theorem lexact_good (a b md : Int) (w : World) (ha : Word a) (hb : Word b) (h1 : fC a < 3) (h2 : fC b < 3) (hT : TabOk w) :
    Calls Tryz.prog 3 #[.int .u64 a, .int .u64 b, .int .u8 md] w fun x w' => x = .returned (.bool true) ∧ Below w.heap.size w w' := by
  have VA := Lib.hid fun w hT => value_any a true ha (decide_eq_true h1) w hT
  have VB := Lib.hid fun w hT => value_any b true hb (decide_eq_true h2) w hT
  have q0 : ¬ (fC a = 4 ∨ fC b = 4) := by omega
  have q1 : ¬ (fC a = 3 ∧ fC b = 3 ∧ fS a ≠ fS b) := fun h => by omega
  have eF : saF md a b = smF md a b := by unfold saF; rw [if_neg q0, if_neg q1, if_neg (by omega), if_neg (by omega)]
  have eG : saG md a b = smG md a b := by unfold saG; rw [if_neg q0, if_neg q1, if_neg (by omega), if_neg (by omega)]
  have S1 := fun w => sadd_any a b md ha hb w
  rw [eF, eG] at S1
  have mF : mlF md a b = if fV a * fV b = 0 then sg (fS a != fS b) else dF md (fV a * fV b) := by unfold mlF; rw [if_neg (by omega), if_neg (by omega), if_neg (by omega)]
  have mG : mlG md a b = dG md (fV a * fV b) := by unfold mlG; rw [if_neg (by omega), if_neg (by omega), if_neg (by omega)]
  have S2 := fun w => smul_any a b md ha hb w
  rw [mF, mG] at S2
  have S3 := fun w => sdiv_any a b md ha hb w
  have sw : Word (smF md a b) := by rw [← eF]; exact saF_word ha hb
  have mw : Word (if fV a * fV b = 0 then sg (fS a != fS b) else dF md (fV a * fV b)) := by rw [← mF]; exact mlF_word _ _ _
  have A1 : Hid (∀ (w : World) (x y z : Value) (L : Nat) (hL : L ≤ 65536) (h : RV w x y z L (fV a + fV b)), Calls Tryz.prog 9 #[.int .u64 (smF md a b), .int .u8 (smG md a b), .agg #[x, y, z], .int .u8 md] w fun e w' => e = .returned (.bool true) ∧ Below w.heap.size w w') := fun w x y z L hL h => by
    refine agrees6_any h hL _ _ _ sw (fun k => ?_) (fun k => ?_)
    · unfold smF smG dG
      rw [if_pos k, if_pos k]
      exact ⟨sg_zero _, rfl⟩
    · unfold smF smG
      rw [if_neg k]
      exact ⟨rfl, rfl⟩
  have A2 : Hid (∀ (w : World) (x y z : Value) (L : Nat) (hL : L ≤ 65536) (h : RV w x y z L (fV a * fV b)), Calls Tryz.prog 9 #[.int .u64 (if fV a * fV b = 0 then sg (fS a != fS b) else dF md (fV a * fV b)), .int .u8 (dG md (fV a * fV b)), .agg #[x, y, z], .int .u8 md] w fun e w' => e = .returned (.bool true) ∧ Below w.heap.size w w') := fun w x y z L hL h => by
    refine agrees6_any h hL _ _ _ mw (fun k => ?_) (fun k => ?_)
    · rw [if_pos k, k]
      exact ⟨sg_zero _, dG_nil md⟩
    · rw [if_neg k]
      exact ⟨rfl, rfl⟩
  have HS1 := Lib.hid S1
  have HS2 := Lib.hid S2
  clear S1 S2 sw mw eF eG mF mG q0 q1
  have D0 := fin_nil h2
  have DV : fC b ≠ 0 → Hid (∀ (w : World) (x y z : Value) (L : Nat) (hL : L ≤ 65536) (h : RV w x y z L (fV a / fV b)), Calls Tryz.prog 9 #[.int .u64 (dvF md a b), .int .u8 (dvG md a b), .agg #[x, y, z], .int .u8 md] w fun e w' => e = .returned (.bool true) ∧ Below w.heap.size w w') := fun hb0 w x y z L hL h => by
    by_cases ha0 : fC a = 0
    · have e1 : dvF md a b = sg (fS a != fS b) := by unfold dvF; rw [if_neg (by omega), if_neg (by omega), if_neg (by omega), if_neg (by omega), if_pos (by omega)]
      have e2 : dvG md a b = 0 := by unfold dvG; rw [if_neg (by omega), if_neg (by omega), if_neg (by omega), if_neg (by omega), if_pos (by omega)]
      have e3 : fV a / fV b = 0 := by rw [(fin_nil h1).2 ha0, Rat.div_def, Rat.zero_mul]
      rw [e1, e2]
      refine agrees6_any h hL _ _ _ (sg_word _) (fun _ => ⟨sg_zero _, rfl⟩) (fun k => absurd e3 k)
    · have e1 : dvF md a b = dF md (fV a / fV b) := by unfold dvF; rw [if_neg (by omega), if_neg (by omega), if_neg (by omega), if_neg (by omega), if_neg (by omega)]
      have e2 : dvG md a b = dG md (fV a / fV b) := by unfold dvG; rw [if_neg (by omega), if_neg (by omega), if_neg (by omega), if_neg (by omega), if_neg (by omega)]
      have e3 : fV a / fV b ≠ 0 := div_zero (fun k => ha0 ((fin_nil h1).1 k)) (fun k => hb0 ((fin_nil h2).1 k))
      rw [e1, e2]
      refine agrees6_any h hL _ _ _ (dF_word _ _) (fun k => absurd k e3) (fun _ => ⟨rfl, rfl⟩)
  have HS3 := Lib.hid S3
  clear S3 h1 h2
  generalize smF md a b = f1 at *
  generalize smG md a b = g1 at *
  generalize (if fV a * fV b = 0 then sg (fS a != fS b) else dF md (fV a * fV b)) = f2 at *
  generalize dG md (fV a * fV b) = g2 at *
  generalize dvF md a b = f3 at *
  generalize dvG md a b = g3 at *
  go_enter Tryz.func3, Tryz.ntmps3
  go_wp2_with fail
  refine (works6 _).mono ?_
  rintro x w1 ⟨rfl, hb1⟩
  have HB1 := Lib.hid hb1
  clear hb1
  go_wp2_with fail
  refine (VA.out _ (hT.below HB1.out)).mono ?_
  rintro x w2 ⟨s2, A2', n2, c2, F2, m2, d2, rfl, r2, h⟩
  have al := bel_alloc (Below.refl w2.heap.size w2) (.cells #[.bool s2, .slice A2' n2 c2, .slice F2 m2 d2] 29)
  have rX := ((r2 rfl).below al).v
  have KX := Blk.new w2 29 #[.bool s2, .slice A2' n2 c2, .slice F2 m2 d2]
  have HB2 := Lib.hid (bel_trans (bel_trans HB1.out h) al)
  clear h al r2 HB1
  go_wp2_with fail
  refine (VB.out _ (hT.below HB2.out)).mono ?_
  rintro x w3 ⟨s3, A3, n3, c3, F3, m3, d3, rfl, r3, h⟩
  have al := bel_alloc (Below.refl w3.heap.size w3) (.cells #[.bool s3, .slice A3 n3 c3, .slice F3 m3 d3] 29)
  have rY := ((r3 rfl).below al).v
  have rX3 := (rX.below h).below al
  have KX3 := (KX.below h KX.lt).alloc (.cells #[.bool s3, .slice A3 n3 c3, .slice F3 m3 d3] 29)
  have KY := Blk.new w3 29 #[.bool s3, .slice A3 n3 c3, .slice F3 m3 d3]
  have HB3 := Lib.hid (bel_trans (bel_trans HB2.out h) al)
  clear h al r3 HB2 rX KX VA VB
  go_wp2_with fail
  refine (HS1.out _).mono ?_
  rintro x w4 ⟨rfl, h⟩
  have rX4 := rX3.below h
  have rY4 := rY.below h
  have KX4 := KX3.below h KX3.lt
  have KY4 := KY.below h KY.lt
  have HB4 := Lib.hid (bel_trans HB3.out h)
  clear h rX3 rY KX3 KY HB3
  go_wp2_with fail
  refine (HS2.out _).mono ?_
  rintro x w5 ⟨rfl, h⟩
  have rX5 := rX4.below h
  have rY5 := rY4.below h
  have KX5 := KX4.below h KX4.lt
  have KY5 := KY4.below h KY4.lt
  have HB5 := Lib.hid (bel_trans HB4.out h)
  clear h rX4 rY4 KX4 KY4 HB4
  obtain ⟨x0, x1, x2, -, -, -⟩ := KX5.three
  obtain ⟨y0, y1, y2, -, -, -⟩ := KY5.three
  go_wp2_with fail
  refine (qadd_any rX5 rY5 (by decide) (by decide) (by decide) (by decide) (hT.below HB5.out)).mono ?_
  rintro x w6 ⟨x6, y6, z6, r6, rfl, h⟩
  obtain ⟨s6, A6, n6, c6, B6, m6, d6, rfl, rfl, rfl⟩ := r6.form
  have rX6 := rX5.below h
  have rY6 := rY5.below h
  have KX6 := KX5.below h KX5.lt
  have KY6 := KY5.below h KY5.lt
  have HB6 := Lib.hid (bel_trans HB5.out h)
  clear h rX5 rY5 KX5 KY5 HB5 x0 x1 x2 y0 y1 y2
  go_wp2_with fail
  refine (A1.out _ _ _ _ (258 + 258 + 1) (by decide) r6.v).mono ?_
  rintro x w7 ⟨rfl, h⟩
  have rX7 := rX6.below h
  have rY7 := rY6.below h
  have KX7 := KX6.below h KX6.lt
  have KY7 := KY6.below h KY6.lt
  have HB7 := Lib.hid (bel_trans HB6.out h)
  clear h rX6 rY6 KX6 KY6 HB6 r6
  obtain ⟨x0, x1, x2, -, -, -⟩ := KX7.three
  obtain ⟨y0, y1, y2, -, -, -⟩ := KY7.three
  go_wp2_with fail
  refine (qmul_any rX7 rY7 (by decide) (by decide) (by decide) (hT.below HB7.out)).mono ?_
  rintro x w8 ⟨x8, y8, z8, r8, rfl, h⟩
  obtain ⟨s8, A8, n8, c8, B8, m8, d8, rfl, rfl, rfl⟩ := r8.form
  have rX8 := rX7.below h
  have rY8 := rY7.below h
  have KX8 := KX7.below h KX7.lt
  have KY8 := KY7.below h KY7.lt
  have HB8 := Lib.hid (bel_trans HB7.out h)
  clear h rX7 rY7 KX7 KY7 HB7 x0 x1 x2 y0 y1 y2
  go_wp2_with fail
  refine (A2.out _ _ _ _ (258 + 258) (by decide) r8.v).mono ?_
  rintro x w9 ⟨rfl, h⟩
  have rX9 := rX8.below h
  have rY9 := rY8.below h
  have KX9 := KX8.below h KX8.lt
  have KY9 := KY8.below h KY8.lt
  have HB9 := Lib.hid (bel_trans HB8.out h)
  clear h rX8 rY8 KX8 KY8 HB8 r8
  obtain ⟨x0, x1, x2, -, -, -⟩ := KX9.three
  obtain ⟨y0, y1, y2, -, -, -⟩ := KY9.three
  by_cases hq : fV b = 0
  · clear DV
    go_wp2_with fail
    refine (qdiv_zero rX9 rY9 (by decide) hq).mono ?_
    rintro x w10 ⟨rfl, h⟩
    go_wp2_with fail
    go_ret
    exact ⟨rfl, bel_alloc (bel_trans HB9.out h) _⟩
  · have DV := DV (fun k => hq (D0.2 k))
    clear D0
    go_wp2_with fail
    refine (qdiv_any rX9 rY9 (by decide) (by decide) (by decide) (hT.below HB9.out) hq).mono ?_
    rintro x w10 ⟨x10, y10, z10, r10, rfl, h⟩
    obtain ⟨s10, A10, n10, c10, B10, m10, d10, rfl, rfl, rfl⟩ := r10.form
    have al := bel_alloc (Below.refl w10.heap.size w10) (.cells #[.bool s10, .slice A10 n10 c10, .slice B10 m10 d10] 29)
    have rZ := (r10.below al).v
    have KZ := Blk.new w10 29 #[.bool s10, .slice A10 n10 c10, .slice B10 m10 d10]
    have HB10 := Lib.hid (bel_trans (bel_trans HB9.out h) al)
    clear h al r10 HB9 rX9 rY9 KX9 KY9 x0 x1 x2 y0 y1 y2
    go_wp2_with fail
    refine (HS3.out _).mono ?_
    rintro x w11 ⟨rfl, h⟩
    have rZ1 := rZ.below h
    have KZ1 := KZ.below h KZ.lt
    have HB11 := Lib.hid (bel_trans HB10.out h)
    clear h rZ KZ HB10
    obtain ⟨x0, x1, x2, -, -, -⟩ := KZ1.three
    go_wp2_with fail
    refine (DV.out _ _ _ _ (258 + 258) (by decide) rZ1).mono ?_
    rintro x w12 ⟨rfl, h⟩
    go_wp2_with fail
    go_ret
    exact ⟨rfl, bel_trans HB11.out h⟩
theorem lexact_walk (a b md : Int) (w : World) (ha : Word a) (hb : Word b) (hT : TabOk w) :
    Calls Tryz.prog 3 #[.int .u64 a, .int .u64 b, .int .u8 md] w fun x w' => x = .returned (.bool true) ∧ Below w.heap.size w w' := by
  by_cases h1 : fC a < 3
  · by_cases h2 : fC b < 3
    · exact lexact_good a b md w ha hb h1 h2 hT
    · exact lexact_bad a b md w ha hb _ _ rfl rfl (.inr (decide_eq_false h2)) hT
  · exact lexact_bad a b md w ha hb _ _ rfl rfl (.inl (decide_eq_false h1)) hT
end Go.Proofs.YtkdckclefegocaaGreatDoor
