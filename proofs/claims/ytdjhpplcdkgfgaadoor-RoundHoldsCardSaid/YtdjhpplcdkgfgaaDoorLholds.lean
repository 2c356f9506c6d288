/-
  The walk of RoundHolds: whatever is handed in, the law answers true. Condition: the table of math/bits stands in its variable.
-/
import Derived.Test.YtdjhpplcdkgfgaaDoorQin5
import Derived.Test.YtdjhpplcdkgfgaaDoorMath5b
namespace Go.Proofs.YtdjhpplcdkgfgaaDoor
open Go.RowKit
set_option maxRecDepth 100000

theorem kps9 {W w1 : World} {p0 p1 p2 p3 p4 p5 p6 p7 p8 : Addr} {a0 a1 a2 a3 a4 a5 a6 a7 a8 : Value} (hb : Below W.heap.size W w1) (h0 : W.cell? p0 = some a0) (h1 : W.cell? p1 = some a1) (h2 : W.cell? p2 = some a2) (h3 : W.cell? p3 = some a3) (h4 : W.cell? p4 = some a4) (h5 : W.cell? p5 = some a5) (h6 : W.cell? p6 = some a6) (h7 : W.cell? p7 = some a7) (h8 : W.cell? p8 = some a8) :
    w1.cell? p0 = some a0 ∧ w1.cell? p1 = some a1 ∧ w1.cell? p2 = some a2 ∧ w1.cell? p3 = some a3 ∧ w1.cell? p4 = some a4 ∧ w1.cell? p5 = some a5 ∧ w1.cell? p6 = some a6 ∧ w1.cell? p7 = some a7 ∧ w1.cell? p8 = some a8 :=
  ⟨kp_c hb h0, kp_c hb h1, kp_c hb h2, kp_c hb h3, kp_c hb h4, kp_c hb h5, kp_c hb h6, kp_c hb h7, kp_c hb h8⟩
/-- What Value answers, of any float. -/
def RetVal (f : Int) (b : Bool) (w : World) (e : Ending) (w' : World) : Prop := ∃ s A n c B m d, e = .returned (.tuple #[.agg #[.bool s, .slice A n c, .slice B m d], .bool b]) ∧ (b = true → RC w' (.bool s) (.slice A n c) (.slice B m d) 258 (fV f)) ∧ Below w.heap.size w w'
theorem value_any (f : Int) (b : Bool) (hf : Word f) (hb : decide (fC f < 3) = b) (w : World) (hT : TabOk w) : Calls Tryd.prog 17 #[.int .u64 f] w (RetVal f b w) := by
  subst hb
  by_cases h : fC f < 3
  · rw [decide_eq_true h]
    refine (value_good f hf h w hT).mono ?_
    rintro e w1 ⟨x, y, z, r, rfl, hb⟩
    obtain ⟨s, A, n, c, B, m, d, rfl, rfl, rfl⟩ := r.form
    exact ⟨s, A, n, c, B, m, d, rfl, fun _ => r, hb⟩
  · rw [decide_eq_false h]
    refine (value_bad f hf h w).mono ?_
    rintro e w1 ⟨rfl, hb⟩
    exact ⟨_, _, _, _, _, _, _, rfl, (fun h => by cases h), hb⟩

set_option maxHeartbeats 4000000 in
theorem lholds_long (s : Bool) (A E : Option Addr) (n c m d : Nat) (g : Int) (w : World) (hT : TabOk w) (h : 6 < n ∨ 6 < m) :
    Calls Tryd.prog 5 #[.agg #[.bool s, .slice A n c, .slice E m d], .int .u64 g] w fun x w' => x = .returned (.bool true) ∧ Below w.heap.size w w' := by
  by_cases hn : 6 < n
  all_goals
    have z1 : decide ((6 : Int) < (n : Int)) = decide (6 < n) := by rw [Bool.eq_iff_iff]; simp; omega
    have z2 : ¬ 6 < n → decide ((6 : Int) < (m : Int)) = true := fun h2 => by simp; omega
    simp only [hn, decide_true, decide_false] at z1
    first | have z2 := z2 hn | clear z2
    clear h
    go_enter Tryd.func5, Tryd.ntmps5
    go_wp2_with fail
    refine (works5 _ (hT.below (bel_alloc (Below.refl _ _) _))).mono ?_
    rintro x w1 ⟨rfl, hb1⟩
    have K1 := (Blk.new w 39 #[.bool s, .slice A n c, .slice E m d]).below hb1 (Blk.new w 39 #[.bool s, .slice A n c, .slice E m d]).lt
    have HB1 := Lib.hid (bel_trans (bel_alloc (Below.refl _ _) _) hb1)
    clear hb1
    obtain ⟨c0, c1, c2, -, -, -⟩ := K1.three
    go_wp2_with fail
    go_ret
    exact ⟨rfl, HB1.out⟩

set_option maxHeartbeats 40000000 in
theorem lholds_short (s : Bool) (A E : Option Addr) (n c m d : Nat) (g : Int) (w : World) (r : Rat) (hg : Word g) (ha : RV w (.bool s) (.slice A n c) (.slice E m d) 6 r) (hT : TabOk w)
    (z1 : decide ((6 : Int) < (n : Int)) = false) (z2 : decide ((6 : Int) < (m : Int)) = false) :
    Calls Tryd.prog 5 #[.agg #[.bool s, .slice A n c, .slice E m d], .int .u64 g] w fun x w' => x = .returned (.bool true) ∧ Below w.heap.size w w' := by
  have H := holds3 r
  have E2 : Hid (∀ (w : World), RV w (.bool s) (.slice A n c) (.slice E m d) 6 r → Calls Tryd.prog 13 #[.agg #[.bool s, .slice A n c, .slice E m d], .int .u8 2] w (RetF (dF 2 r) (dG 2 r) w)) := fun w h => exact_f h 2 (by decide)
  have E1 : Hid (∀ (w : World), RV w (.bool s) (.slice A n c) (.slice E m d) 6 r → Calls Tryd.prog 13 #[.agg #[.bool s, .slice A n c, .slice E m d], .int .u8 1] w (RetF (dF 1 r) (dG 1 r) w)) := fun w h => exact_f h 1 (by decide)
  have E0 : Hid (∀ (w : World), RV w (.bool s) (.slice A n c) (.slice E m d) 6 r → Calls Tryd.prog 13 #[.agg #[.bool s, .slice A n c, .slice E m d], .int .u8 0] w (RetF (dF 0 r) (dG 0 r) w)) := fun w h => exact_f h 0 (by decide)
  generalize dF 2 r = D at *
  generalize dF 1 r = U at *
  generalize dF 0 r = Z at *
  generalize dG 2 r = D' at *
  generalize dG 1 r = U' at *
  generalize dG 0 r = Z' at *
  obtain ⟨dw, uw, nw, down, up, dinf, uinf, oneof, one, next, near⟩ := H
  obtain ⟨od, hod⟩ : ∃ b, decide (fC D < 3) = b := ⟨_, rfl⟩
  obtain ⟨ou, hou⟩ : ∃ b, decide (fC U < 3) = b := ⟨_, rfl⟩
  obtain ⟨oz, hoz⟩ : ∃ b, decide (fC Z < 3) = b := ⟨_, rfl⟩
  obtain ⟨og, hog⟩ : ∃ b, decide (fC g < 3) = b := ⟨_, rfl⟩
  have VD := Lib.hid fun w hT => value_any D od dw hod w hT
  have VU := Lib.hid fun w hT => value_any U ou uw hou w hT
  have VZ := Lib.hid fun w hT => value_any Z oz nw hoz w hT
  have VG := Lib.hid fun w hT => value_any g og hg hog w hT
  have HD : Hid ((od = true → cmpR (fV D) r ≤ 0) ∧ (od = false → D = 18442240474082181120)) := ⟨fun h => down (of_decide_eq_true (hod.trans h)), fun h => dinf (of_decide_eq_false (hod.trans h))⟩
  have HU : Hid ((ou = true → 0 ≤ cmpR (fV U) r) ∧ (ou = false → U = 9218868437227405312)) := ⟨fun h => up (of_decide_eq_true (hou.trans h)), fun h => uinf (of_decide_eq_false (hou.trans h))⟩
  have HO : Hid (od = true ∨ ou = true) := by
    rcases oneof with h | h
    · exact .inl (hod.symm.trans (decide_eq_true h))
    · exact .inr (hou.symm.trans (decide_eq_true h))
  have HN : Hid (oz = true → og = true → cmpR (absR (fV Z - r)) (absR (fV g - r)) ≤ 0) := fun h k => near (of_decide_eq_true (hoz.trans h)) g hg (of_decide_eq_true (hog.trans k))
  have HX : Hid ((Z = D ∨ Z = U) ∧ (D = U ∨ fNx D = U)) := ⟨one, next⟩
  clear down up dinf uinf oneof one next near hod hou hoz hog
  have I1 : Hid (∀ w : World, Calls Tryd.prog 19 #[.bool true] w fun x w' => x = .returned (.int .u64 18442240474082181120) ∧ w = w') := fun w => inf_f true w
  have I0 : Hid (∀ w : World, Calls Tryd.prog 19 #[.bool false] w fun x w' => x = .returned (.int .u64 9218868437227405312) ∧ w = w') := fun w => inf_f false w
  go_enter Tryd.func5, Tryd.ntmps5
  go_wp2_with fail
  refine (works5 _ (hT.below (bel_alloc (Below.refl _ _) _))).mono ?_
  rintro x w1 ⟨rfl, hb1⟩
  have K1 := (Blk.new w 39 #[.bool s, .slice A n c, .slice E m d]).below hb1 (Blk.new w 39 #[.bool s, .slice A n c, .slice E m d]).lt
  have B1 := bel_trans (bel_alloc (Below.refl _ _) _) hb1
  have a1 := ha.below B1
  have HB1 := Lib.hid B1
  clear hb1 B1 ha
  obtain ⟨c0, c1, c2, -, -, -⟩ := K1.three
  go_wp2_with fail
  refine (E2.out _ a1).mono ?_
  rintro x w2 ⟨rfl, h⟩
  have K2 := K1.below h K1.lt
  have a2 := a1.below h
  have HB2 := Lib.hid (bel_trans HB1.out h)
  clear c0 c1 c2 K1 a1 HB1 h
  obtain ⟨c0, c1, c2, -, -, -⟩ := K2.three
  go_wp2_with fail
  refine (E1.out _ a2).mono ?_
  rintro x w3 ⟨rfl, h⟩
  have K3 := K2.below h K2.lt
  have a3 := a2.below h
  have HB3 := Lib.hid (bel_trans HB2.out h)
  clear c0 c1 c2 K2 a2 HB2 h
  obtain ⟨c0, c1, c2, -, -, -⟩ := K3.three
  go_wp2_with fail
  refine (E0.out _ a3).mono ?_
  rintro x w4 ⟨rfl, h⟩
  have K4 := K3.below h K3.lt
  have a4 := a3.below h
  have HB4 := Lib.hid (bel_trans HB3.out h)
  clear c0 c1 c2 K3 a3 HB3 h
  obtain ⟨c0, c1, c2, -, -, -⟩ := K4.three
  go_wp2_with fail
  clear c0 c1 c2
  refine (VD.out _ (hT.below HB4.out)).mono ?_
  rintro x w5 ⟨sd, Ad, nd, cd, Fd, md, dd, rfl, rd, h⟩
  have al := bel_alloc (Below.refl w5.heap.size w5) (.cells #[.bool sd, .slice Ad nd cd, .slice Fd md dd] 39)
  have Ld := Blk.new w5 39 #[.bool sd, .slice Ad nd cd, .slice Fd md dd]
  have K5 := (K4.below h K4.lt).alloc (.cells #[.bool sd, .slice Ad nd cd, .slice Fd md dd] 39)
  have a5 := (a4.below h).below al
  have qd := fun hh => (rd hh).below al
  have HB5 := Lib.hid (bel_trans (bel_trans HB4.out h) al)
  clear al h K4 a4 rd HB4
  have RD := Lib.hid qd
  clear qd
  go_wp2_with fail
  refine (VU.out _ (hT.below HB5.out)).mono ?_
  rintro x w6 ⟨su, Au, nu, cu, Fu, mu, du, rfl, ru, h⟩
  have al := bel_alloc (Below.refl w6.heap.size w6) (.cells #[.bool su, .slice Au nu cu, .slice Fu mu du] 39)
  have Lu := Blk.new w6 39 #[.bool su, .slice Au nu cu, .slice Fu mu du]
  have K6 := (K5.below h K5.lt).alloc (.cells #[.bool su, .slice Au nu cu, .slice Fu mu du] 39)
  have Ld6 := (Ld.below h Ld.lt).alloc (.cells #[.bool su, .slice Au nu cu, .slice Fu mu du] 39)
  have a6 := (a5.below h).below al
  have RU := Lib.hid fun hh => (ru hh).below al
  have RD6 := Lib.hid fun hh => ((RD.out hh).below h).below al
  have HB6 := Lib.hid (bel_trans (bel_trans HB5.out h) al)
  clear al h K5 Ld a5 ru RD HB5
  obtain ⟨W6, hW6⟩ : ∃ W, W = w6.alloc (.cells #[.bool su, .slice Au nu cu, .slice Fu mu du] 39) := ⟨_, rfl⟩
  have V6 := Lib.hid hW6
  rw [← hW6] at Lu K6 Ld6 a6 RU RD6 HB6
  clear hW6
  go_upto_region 11 with fail
  rw [← V6.out]
  clear V6
  go_cut [92] (fun t wx => t = .bool false ∧ Below W6.heap.size W6 wx)
  case first =>
    obtain ⟨c0, c1, c2, -, -, -⟩ := K6.three
    obtain ⟨d0, d1, d2, -, -, -⟩ := Ld6.three
    obtain ⟨e0, e1, e2, -, -, -⟩ := Lu.three
    cases hod : od
    · cases hou : ou
      · have := HO.out; rw [hod, hou] at this; simp at this
      · have k2 := HU.out.1 hou
        have rU := RU.out hou
        obtain rfl := HD.out.2 hod
        subst hod hou
        have t2 : decide (cmpR (fV U) r < 0) = false := by simp; omega
        generalize hq : fV U = fu at *
        clear hq
        have QC := Lib.hid (qcmp_any (rU.v) a6 (by decide) (by decide))
        generalize cmpR fu r = q2 at *
        go_wp2_with fail
        refine (QC.out).mono ?_
        rintro x v1 ⟨rfl, h1⟩
        go_wp2_with fail
        refine (I1.out _).mono ?_
        rintro x v2 ⟨rfl, rfl⟩
        go_wp2_with fail
        go_meet
        exact ⟨rfl, h1⟩
    · cases hou : ou
      · have k1 := HD.out.1 hod
        have rD := RD6.out hod
        obtain rfl := HU.out.2 hou
        subst hod hou
        have t1 : decide (0 < cmpR (fV D) r) = false := by simp; omega
        generalize hq : fV D = fd at *
        clear hq
        have QC := Lib.hid (qcmp_any (rD.v) a6 (by decide) (by decide))
        generalize cmpR fd r = q1 at *
        go_wp2_with fail
        refine (QC.out).mono ?_
        rintro x v1 ⟨rfl, h1⟩
        go_wp2_with fail
        refine (I0.out _).mono ?_
        rintro x v2 ⟨rfl, rfl⟩
        go_wp2_with fail
        go_meet
        exact ⟨rfl, h1⟩
      · have k1 := HD.out.1 hod
        have k2 := HU.out.1 hou
        have rD := RD6.out hod
        have rU := RU.out hou
        subst hod hou
        have t1 : decide (0 < cmpR (fV D) r) = false := by simp; omega
        have t2 : decide (cmpR (fV U) r < 0) = false := by simp; omega
        generalize hq : fV D = fd at *
        clear hq
        generalize hq : fV U = fu at *
        clear hq
        have QC := Lib.hid (qcmp_any (rD.v) a6 (by decide) (by decide))
        have QD : Hid (∀ v1 : World, Below W6.heap.size W6 v1 → Calls Tryd.prog 18 #[.agg #[.bool su, .slice Au nu cu, .slice Fu mu du], .agg #[.bool s, .slice A n c, .slice E m d]] v1 fun e w' => e = .returned (.int .i64 (cmpR fu r)) ∧ Below v1.heap.size v1 w') := fun v1 hb => qcmp_any ((rU.v).below hb) (a6.below hb) (by decide) (by decide)
        generalize cmpR fd r = q1 at *
        generalize cmpR fu r = q2 at *
        go_wp2_with fail
        refine (QC.out).mono ?_
        rintro x v1 ⟨rfl, h1⟩
        have K7 := K6.below h1 K6.lt
        have L7 := Lu.below h1 Lu.lt
        clear c0 c1 c2 d0 d1 d2 e0 e1 e2
        obtain ⟨c0, c1, c2, -, -, -⟩ := K7.three
        obtain ⟨e0, e1, e2, -, -, -⟩ := L7.three
        go_wp2_with fail
        refine (QD.out _ h1).mono ?_
        rintro x v2 ⟨rfl, h2⟩
        go_wp2_with fail
        go_meet
        exact ⟨rfl, bel_trans h1 h2⟩
  case rest =>
  obtain ⟨rfl, hbc⟩ := hcut
  have K7 := K6.below hbc K6.lt
  have a7 := a6.below hbc
  have HB7 := Lib.hid (bel_trans HB6.out hbc)
  clear hbc K6 Ld6 Lu a6 RU RD6 HB6 HD HU HO VD VU I0 I1
  generalize wc = w7 at *
  go_upto_region 13 with fail
  have NX := Lib.hid fun w => next_f D dw w
  go_cut [144] (fun t wx => t = .bool false ∧ wx = w7)
  case first =>
    obtain ⟨o1, o2⟩ := HX.out
    by_cases hz : Z = D
    · subst hz
      by_cases hu : Z = U
      · subst hu
        go_wp2_with fail
        go_meet
        exact ⟨rfl, rfl⟩
      · have e1 : fNx Z = U := by rcases o2 with h | h; exact absurd h hu; exact h
        rw [e1] at NX
        have t1 : (Z != U) = true := by simp [hu]
        have t2 : (Z == U) = false := by simp [hu]
        clear e1 o1 o2 hu
        go_wp2_with fail
        refine (NX.out _).mono ?_
        rintro x v1 ⟨rfl, rfl⟩
        go_wp2_with fail
        go_meet
        exact ⟨rfl, rfl⟩
    · have hzu : Z = U := by rcases o1 with h | h; exact absurd h hz; exact h
      subst hzu
      have e1 : fNx D = Z := by rcases o2 with h | h; exact absurd h.symm hz; exact h
      rw [e1] at NX
      have hz' : ¬ D = Z := fun h => hz h.symm
      have t1 : (Z != D) = true := by simp [hz]
      have t2 : (Z == D) = false := by simp [hz]
      have t3 : (D != Z) = true := by simp [hz']
      have t4 : (D == Z) = false := by simp [hz']
      clear e1 o1 o2 hz hz'
      go_wp2_with fail
      refine (NX.out _).mono ?_
      rintro x v1 ⟨rfl, rfl⟩
      go_wp2_with fail
      go_meet
      exact ⟨rfl, rfl⟩
  case rest =>
  obtain ⟨rfl, rfl⟩ := hcut
  generalize wc = w8 at *
  clear NX HX
  go_wp2_with fail
  refine (VZ.out _ (hT.below HB7.out)).mono ?_
  rintro x w9 ⟨sz, Az, nz, cz, Fz, mz, dz, rfl, rz, h⟩
  have al := bel_alloc (Below.refl w9.heap.size w9) (.cells #[.bool sz, .slice Az nz cz, .slice Fz mz dz] 39)
  have Lz := Blk.new w9 39 #[.bool sz, .slice Az nz cz, .slice Fz mz dz]
  have K9 := (K7.below h K7.lt).alloc (.cells #[.bool sz, .slice Az nz cz, .slice Fz mz dz] 39)
  have a9 := (a7.below h).below al
  have RZ := Lib.hid fun hh => (rz hh).below al
  have HB9 := Lib.hid (bel_trans (bel_trans HB7.out h) al)
  clear al h K7 a7 rz HB7 VZ
  go_wp2_with fail
  refine (VG.out _ (hT.below HB9.out)).mono ?_
  rintro x w10 ⟨sg', Ag, ng, cg, Fg, mg, dg, rfl, rg, h⟩
  have al := bel_alloc (Below.refl w10.heap.size w10) (.cells #[.bool sg', .slice Ag ng cg, .slice Fg mg dg] 39)
  have Lg := Blk.new w10 39 #[.bool sg', .slice Ag ng cg, .slice Fg mg dg]
  have K10 := (K9.below h K9.lt).alloc (.cells #[.bool sg', .slice Ag ng cg, .slice Fg mg dg] 39)
  have Lz10 := (Lz.below h Lz.lt).alloc (.cells #[.bool sg', .slice Ag ng cg, .slice Fg mg dg] 39)
  have a10 := (a9.below h).below al
  have RG := Lib.hid fun hh => (rg hh).below al
  have RZ10 := Lib.hid fun hh => ((RZ.out hh).below h).below al
  have HB10 := Lib.hid (bel_trans (bel_trans HB9.out h) al)
  clear al h K9 Lz a9 rg RZ HB9 VG
  obtain ⟨W, hW⟩ : ∃ W, W = w10.alloc (.cells #[.bool sg', .slice Ag ng cg, .slice Fg mg dg] 39) := ⟨_, rfl⟩
  have V10 := Lib.hid hW
  rw [← hW] at Lg K10 Lz10 a10 RG RZ10 HB10
  clear hW
  go_upto_region 17 with fail
  rw [← V10.out]
  clear V10
  generalize w10.heap.size = gg at *
  generalize w9.heap.size = gz at *
  generalize hwb : w.heap.size = gr at K10 ⊢
  have HWB := Lib.hid hwb
  clear hwb
  obtain ⟨c0, c1, c2, -, -, -⟩ := K10.three
  obtain ⟨d0, d1, d2, -, -, -⟩ := Lz10.three
  obtain ⟨e0, e1, e2, -, -, -⟩ := Lg.three
  have HK : Hid (∀ w', Below W.heap.size W w' → (w'.cell? ⟨gr, 0, none⟩ = some (.bool s) ∧ w'.cell? ⟨gr, 1, none⟩ = some (.slice A n c) ∧ w'.cell? ⟨gr, 2, none⟩ = some (.slice E m d) ∧ w'.cell? ⟨gz, 0, none⟩ = some (.bool sz) ∧ w'.cell? ⟨gz, 1, none⟩ = some (.slice Az nz cz) ∧ w'.cell? ⟨gz, 2, none⟩ = some (.slice Fz mz dz) ∧ w'.cell? ⟨gg, 0, none⟩ = some (.bool sg') ∧ w'.cell? ⟨gg, 1, none⟩ = some (.slice Ag ng cg) ∧ w'.cell? ⟨gg, 2, none⟩ = some (.slice Fg mg dg))) := fun w' hb => kps9 hb c0 c1 c2 d0 d1 d2 e0 e1 e2
  clear c0 c1 c2 d0 d1 d2 e0 e1 e2
  cases hoz : oz
  · subst hoz
    refine region_plan (S := fun w' => w'.cell? ⟨gr, 0, none⟩ = some (.bool s) ∧ w'.cell? ⟨gr, 1, none⟩ = some (.slice A n c) ∧ w'.cell? ⟨gr, 2, none⟩ = some (.slice E m d) ∧ w'.cell? ⟨gz, 0, none⟩ = some (.bool sz) ∧ w'.cell? ⟨gz, 1, none⟩ = some (.slice Az nz cz) ∧ w'.cell? ⟨gz, 2, none⟩ = some (.slice Fz mz dz) ∧ w'.cell? ⟨gg, 0, none⟩ = some (.bool sg') ∧ w'.cell? ⟨gg, 1, none⟩ = some (.slice Ag ng cg) ∧ w'.cell? ⟨gg, 2, none⟩ = some (.slice Fg mg dg)) _ [(0, true), (1, true), (2, true), (3, true), (4, true), (5, true), (6, true), (7, true), (8, true), (9, true), (10, true), (13, true), (14, true), (11, false), (12, false), (15, false), (16, false), (17, false), (18, true), (19, true), (20, true), (21, true)] (by kernel_rfl) (by kernel_rfl) rfl (by kernel_rfl) (by kernel_rfl) (fun _ _ d _ _ h => by cases d <;> exact h) (HK.out _ (bel_drew (Below.refl _ _))) ?_
    refine Walk.take (v := ?_) rfl (by rfl) ?_ ?_
    rotate_left
    · (intro w' hSw; (try dsimp only at hSw); go_simp <;> with_reducible rfl)
    try simp only [Act.put, List.setIfInBounds_toArray, List.set_cons_zero, List.set_cons_succ]
    refine Walk.take (v := ?_) rfl (by rfl) ?_ ?_
    rotate_left
    · (intro w' hSw; (try dsimp only at hSw); go_simp <;> with_reducible rfl)
    try simp only [Act.put, List.setIfInBounds_toArray, List.set_cons_zero, List.set_cons_succ]
    refine Walk.take (v := ?_) rfl (by rfl) ?_ ?_
    rotate_left
    · (intro w' hSw; (try dsimp only at hSw); go_simp <;> with_reducible rfl)
    try simp only [Act.put, List.setIfInBounds_toArray, List.set_cons_zero, List.set_cons_succ]
    refine Walk.take (v := ?_) rfl (by rfl) ?_ ?_
    rotate_left
    · (intro w' hSw; (try dsimp only at hSw); go_simp <;> with_reducible rfl)
    try simp only [Act.put, List.setIfInBounds_toArray, List.set_cons_zero, List.set_cons_succ]
    refine Walk.take (v := ?_) rfl (by rfl) ?_ ?_
    rotate_left
    · (intro w' hSw; (try dsimp only at hSw); go_simp <;> with_reducible rfl)
    try simp only [Act.put, List.setIfInBounds_toArray, List.set_cons_zero, List.set_cons_succ]
    refine Walk.skip rfl (by rfl) ?_
    try simp only [Act.put, List.setIfInBounds_toArray, List.set_cons_zero, List.set_cons_succ]
    refine Walk.skip rfl (by rfl) ?_
    try simp only [Act.put, List.setIfInBounds_toArray, List.set_cons_zero, List.set_cons_succ]
    refine Walk.take (v := ?_) rfl (by rfl) ?_ ?_
    rotate_left
    · (intro w' hSw; (try dsimp only at hSw); go_simp <;> with_reducible rfl)
    try simp only [Act.put, List.setIfInBounds_toArray, List.set_cons_zero, List.set_cons_succ]
    refine Walk.take (v := ?_) rfl (by rfl) ?_ ?_
    rotate_left
    · (intro w' hSw; (try dsimp only at hSw); go_simp <;> with_reducible rfl)
    try simp only [Act.put, List.setIfInBounds_toArray, List.set_cons_zero, List.set_cons_succ]
    refine Walk.skip rfl (by rfl) ?_
    try simp only [Act.put, List.setIfInBounds_toArray, List.set_cons_zero, List.set_cons_succ]
    refine Walk.skip rfl (by rfl) ?_
    try simp only [Act.put, List.setIfInBounds_toArray, List.set_cons_zero, List.set_cons_succ]
    refine Walk.skip rfl (by rfl) ?_
    try simp only [Act.put, List.setIfInBounds_toArray, List.set_cons_zero, List.set_cons_succ]
    refine Walk.skip rfl (by rfl) ?_
    try simp only [Act.put, List.setIfInBounds_toArray, List.set_cons_zero, List.set_cons_succ]
    refine Walk.pass rfl (by rfl) (HK.out _ (bel_drew (Below.refl _ _))) ?_
    try simp only [Act.put, List.setIfInBounds_toArray, List.set_cons_zero, List.set_cons_succ]
    refine Walk.pass rfl (by rfl) (HK.out _ (bel_drew (Below.refl _ _))) ?_
    try simp only [Act.put, List.setIfInBounds_toArray, List.set_cons_zero, List.set_cons_succ]
    refine Walk.pass rfl (by rfl) (HK.out _ (bel_drew (Below.refl _ _))) ?_
    try simp only [Act.put, List.setIfInBounds_toArray, List.set_cons_zero, List.set_cons_succ]
    refine Walk.pass rfl (by rfl) (HK.out _ (bel_drew (Below.refl _ _))) ?_
    try simp only [Act.put, List.setIfInBounds_toArray, List.set_cons_zero, List.set_cons_succ]
    refine Walk.pass rfl (by rfl) (HK.out _ (bel_drew (Below.refl _ _))) ?_
    try simp only [Act.put, List.setIfInBounds_toArray, List.set_cons_zero, List.set_cons_succ]
    refine Walk.skip rfl (by rfl) ?_
    try simp only [Act.put, List.setIfInBounds_toArray, List.set_cons_zero, List.set_cons_succ]
    refine Walk.take (v := ?_) rfl (by rfl) ?_ ?_
    rotate_left
    · (intro w' hSw; (try dsimp only at hSw); go_simp <;> with_reducible rfl)
    try simp only [Act.put, List.setIfInBounds_toArray, List.set_cons_zero, List.set_cons_succ]
    refine Walk.take (v := ?_) rfl (by rfl) ?_ ?_
    rotate_left
    · (intro w' hSw; (try dsimp only at hSw); go_simp <;> with_reducible rfl)
    try simp only [Act.put, List.setIfInBounds_toArray, List.set_cons_zero, List.set_cons_succ]
    refine Walk.take (v := ?_) rfl (by rfl) ?_ ?_
    rotate_left
    · (intro w' hSw; (try dsimp only at hSw); go_simp <;> with_reducible rfl)
    try simp only [Act.put, List.setIfInBounds_toArray, List.set_cons_zero, List.set_cons_succ]
    refine Walk.done ?_
    have HE := Lib.hid (bel_trans HB10.out (bel_drew (Below.refl _ _)))
    go_wp2_with fail
    go_ret
    exact ⟨rfl, HE.out⟩
  · cases hog : og
    · subst hoz hog
      refine region_plan (S := fun w' => w'.cell? ⟨gr, 0, none⟩ = some (.bool s) ∧ w'.cell? ⟨gr, 1, none⟩ = some (.slice A n c) ∧ w'.cell? ⟨gr, 2, none⟩ = some (.slice E m d) ∧ w'.cell? ⟨gz, 0, none⟩ = some (.bool sz) ∧ w'.cell? ⟨gz, 1, none⟩ = some (.slice Az nz cz) ∧ w'.cell? ⟨gz, 2, none⟩ = some (.slice Fz mz dz) ∧ w'.cell? ⟨gg, 0, none⟩ = some (.bool sg') ∧ w'.cell? ⟨gg, 1, none⟩ = some (.slice Ag ng cg) ∧ w'.cell? ⟨gg, 2, none⟩ = some (.slice Fg mg dg)) _ [(0, true), (1, true), (2, true), (3, true), (4, true), (5, true), (6, true), (7, true), (8, true), (9, true), (10, true), (13, true), (14, true), (11, false), (12, false), (15, false), (16, false), (17, false), (18, true), (19, true), (20, true), (21, true)] (by kernel_rfl) (by kernel_rfl) rfl (by kernel_rfl) (by kernel_rfl) (fun _ _ d _ _ h => by cases d <;> exact h) (HK.out _ (bel_drew (Below.refl _ _))) ?_
      refine Walk.take (v := ?_) rfl (by rfl) ?_ ?_
      rotate_left
      · (intro w' hSw; (try dsimp only at hSw); go_simp <;> with_reducible rfl)
      try simp only [Act.put, List.setIfInBounds_toArray, List.set_cons_zero, List.set_cons_succ]
      refine Walk.take (v := ?_) rfl (by rfl) ?_ ?_
      rotate_left
      · (intro w' hSw; (try dsimp only at hSw); go_simp <;> with_reducible rfl)
      try simp only [Act.put, List.setIfInBounds_toArray, List.set_cons_zero, List.set_cons_succ]
      refine Walk.take (v := ?_) rfl (by rfl) ?_ ?_
      rotate_left
      · (intro w' hSw; (try dsimp only at hSw); go_simp <;> with_reducible rfl)
      try simp only [Act.put, List.setIfInBounds_toArray, List.set_cons_zero, List.set_cons_succ]
      refine Walk.take (v := ?_) rfl (by rfl) ?_ ?_
      rotate_left
      · (intro w' hSw; (try dsimp only at hSw); go_simp <;> with_reducible rfl)
      try simp only [Act.put, List.setIfInBounds_toArray, List.set_cons_zero, List.set_cons_succ]
      refine Walk.take (v := ?_) rfl (by rfl) ?_ ?_
      rotate_left
      · (intro w' hSw; (try dsimp only at hSw); go_simp <;> with_reducible rfl)
      try simp only [Act.put, List.setIfInBounds_toArray, List.set_cons_zero, List.set_cons_succ]
      refine Walk.take (v := ?_) rfl (by rfl) ?_ ?_
      rotate_left
      · (intro w' hSw; (try dsimp only at hSw); go_simp <;> with_reducible rfl)
      try simp only [Act.put, List.setIfInBounds_toArray, List.set_cons_zero, List.set_cons_succ]
      refine Walk.take (v := ?_) rfl (by rfl) ?_ ?_
      rotate_left
      · (intro w' hSw; (try dsimp only at hSw); go_simp <;> with_reducible rfl)
      try simp only [Act.put, List.setIfInBounds_toArray, List.set_cons_zero, List.set_cons_succ]
      refine Walk.take (v := ?_) rfl (by rfl) ?_ ?_
      rotate_left
      · (intro w' hSw; (try dsimp only at hSw); go_simp <;> with_reducible rfl)
      try simp only [Act.put, List.setIfInBounds_toArray, List.set_cons_zero, List.set_cons_succ]
      refine Walk.take (v := ?_) rfl (by rfl) ?_ ?_
      rotate_left
      · (intro w' hSw; (try dsimp only at hSw); go_simp <;> with_reducible rfl)
      try simp only [Act.put, List.setIfInBounds_toArray, List.set_cons_zero, List.set_cons_succ]
      refine Walk.skip rfl (by rfl) ?_
      try simp only [Act.put, List.setIfInBounds_toArray, List.set_cons_zero, List.set_cons_succ]
      refine Walk.skip rfl (by rfl) ?_
      try simp only [Act.put, List.setIfInBounds_toArray, List.set_cons_zero, List.set_cons_succ]
      refine Walk.skip rfl (by rfl) ?_
      try simp only [Act.put, List.setIfInBounds_toArray, List.set_cons_zero, List.set_cons_succ]
      refine Walk.skip rfl (by rfl) ?_
      try simp only [Act.put, List.setIfInBounds_toArray, List.set_cons_zero, List.set_cons_succ]
      refine Walk.pass rfl (by rfl) (HK.out _ (bel_drew (Below.refl _ _))) ?_
      try simp only [Act.put, List.setIfInBounds_toArray, List.set_cons_zero, List.set_cons_succ]
      refine Walk.pass rfl (by rfl) (HK.out _ (bel_drew (Below.refl _ _))) ?_
      try simp only [Act.put, List.setIfInBounds_toArray, List.set_cons_zero, List.set_cons_succ]
      refine Walk.pass rfl (by rfl) (HK.out _ (bel_drew (Below.refl _ _))) ?_
      try simp only [Act.put, List.setIfInBounds_toArray, List.set_cons_zero, List.set_cons_succ]
      refine Walk.pass rfl (by rfl) (HK.out _ (bel_drew (Below.refl _ _))) ?_
      try simp only [Act.put, List.setIfInBounds_toArray, List.set_cons_zero, List.set_cons_succ]
      refine Walk.pass rfl (by rfl) (HK.out _ (bel_drew (Below.refl _ _))) ?_
      try simp only [Act.put, List.setIfInBounds_toArray, List.set_cons_zero, List.set_cons_succ]
      refine Walk.skip rfl (by rfl) ?_
      try simp only [Act.put, List.setIfInBounds_toArray, List.set_cons_zero, List.set_cons_succ]
      refine Walk.take (v := ?_) rfl (by rfl) ?_ ?_
      rotate_left
      · (intro w' hSw; (try dsimp only at hSw); go_simp <;> with_reducible rfl)
      try simp only [Act.put, List.setIfInBounds_toArray, List.set_cons_zero, List.set_cons_succ]
      refine Walk.take (v := ?_) rfl (by rfl) ?_ ?_
      rotate_left
      · (intro w' hSw; (try dsimp only at hSw); go_simp <;> with_reducible rfl)
      try simp only [Act.put, List.setIfInBounds_toArray, List.set_cons_zero, List.set_cons_succ]
      refine Walk.take (v := ?_) rfl (by rfl) ?_ ?_
      rotate_left
      · (intro w' hSw; (try dsimp only at hSw); go_simp <;> with_reducible rfl)
      try simp only [Act.put, List.setIfInBounds_toArray, List.set_cons_zero, List.set_cons_succ]
      refine Walk.done ?_
      have HE := Lib.hid (bel_trans HB10.out (bel_drew (Below.refl _ _)))
      go_wp2_with fail
      go_ret
      exact ⟨rfl, HE.out⟩
    · have near := HN.out hoz hog
      have rZ := (RZ10.out hoz).v
      have rG := (RG.out hog).v
      subst hoz hog
      generalize hq : fV Z = fz at *
      clear hq
      generalize hq : fV g = fg at *
      clear hq
      have t1 : decide (cmpR (absR (fz - r)) (absR (fg - r)) ≤ 0) = true := decide_eq_true near
      refine region_plan (S := fun w' => w'.cell? ⟨gr, 0, none⟩ = some (.bool s) ∧ w'.cell? ⟨gr, 1, none⟩ = some (.slice A n c) ∧ w'.cell? ⟨gr, 2, none⟩ = some (.slice E m d) ∧ w'.cell? ⟨gz, 0, none⟩ = some (.bool sz) ∧ w'.cell? ⟨gz, 1, none⟩ = some (.slice Az nz cz) ∧ w'.cell? ⟨gz, 2, none⟩ = some (.slice Fz mz dz) ∧ w'.cell? ⟨gg, 0, none⟩ = some (.bool sg') ∧ w'.cell? ⟨gg, 1, none⟩ = some (.slice Ag ng cg) ∧ w'.cell? ⟨gg, 2, none⟩ = some (.slice Fg mg dg)) _ [(0, true), (1, true), (2, true), (3, true), (4, true), (5, true), (6, true), (7, true), (8, true), (9, true), (10, true), (13, true), (14, true), (11, false), (12, false), (15, false), (16, false), (17, false), (18, true), (19, true), (20, true), (21, true)] (by kernel_rfl) (by kernel_rfl) rfl (by kernel_rfl) (by kernel_rfl) (fun _ _ d _ _ h => by cases d <;> exact h) (HK.out _ (bel_drew (Below.refl _ _))) ?_
      refine Walk.take (v := ?_) rfl (by rfl) ?_ ?_
      rotate_left
      · (intro w' hSw; (try dsimp only at hSw); go_simp <;> with_reducible rfl)
      try simp only [Act.put, List.setIfInBounds_toArray, List.set_cons_zero, List.set_cons_succ]
      refine Walk.take (v := ?_) rfl (by rfl) ?_ ?_
      rotate_left
      · (intro w' hSw; (try dsimp only at hSw); go_simp <;> with_reducible rfl)
      try simp only [Act.put, List.setIfInBounds_toArray, List.set_cons_zero, List.set_cons_succ]
      refine Walk.take (v := ?_) rfl (by rfl) ?_ ?_
      rotate_left
      · (intro w' hSw; (try dsimp only at hSw); go_simp <;> with_reducible rfl)
      try simp only [Act.put, List.setIfInBounds_toArray, List.set_cons_zero, List.set_cons_succ]
      refine Walk.take (v := ?_) rfl (by rfl) ?_ ?_
      rotate_left
      · (intro w' hSw; (try dsimp only at hSw); go_simp <;> with_reducible rfl)
      try simp only [Act.put, List.setIfInBounds_toArray, List.set_cons_zero, List.set_cons_succ]
      refine Walk.take (v := ?_) rfl (by rfl) ?_ ?_
      rotate_left
      · (intro w' hSw; (try dsimp only at hSw); go_simp <;> with_reducible rfl)
      try simp only [Act.put, List.setIfInBounds_toArray, List.set_cons_zero, List.set_cons_succ]
      refine Walk.take (v := ?_) rfl (by rfl) ?_ ?_
      rotate_left
      · (intro w' hSw; (try dsimp only at hSw); go_simp <;> with_reducible rfl)
      try simp only [Act.put, List.setIfInBounds_toArray, List.set_cons_zero, List.set_cons_succ]
      refine Walk.take (v := ?_) rfl (by rfl) ?_ ?_
      rotate_left
      · (intro w' hSw; (try dsimp only at hSw); go_simp <;> with_reducible rfl)
      try simp only [Act.put, List.setIfInBounds_toArray, List.set_cons_zero, List.set_cons_succ]
      refine Walk.take (v := ?_) rfl (by rfl) ?_ ?_
      rotate_left
      · (intro w' hSw; (try dsimp only at hSw); go_simp <;> with_reducible rfl)
      try simp only [Act.put, List.setIfInBounds_toArray, List.set_cons_zero, List.set_cons_succ]
      refine Walk.take (v := ?_) rfl (by rfl) ?_ ?_
      rotate_left
      · (intro w' hSw; (try dsimp only at hSw); go_simp <;> with_reducible rfl)
      try simp only [Act.put, List.setIfInBounds_toArray, List.set_cons_zero, List.set_cons_succ]
      refine Walk.take (v := ?_) rfl (by rfl) ?_ ?_
      rotate_left
      · (intro w' hSw; (try dsimp only at hSw); go_simp <;> with_reducible rfl)
      try simp only [Act.put, List.setIfInBounds_toArray, List.set_cons_zero, List.set_cons_succ]
      refine Walk.take (v := ?_) rfl (by rfl) ?_ ?_
      rotate_left
      · (intro w' hSw; (try dsimp only at hSw); go_simp <;> with_reducible rfl)
      try simp only [Act.put, List.setIfInBounds_toArray, List.set_cons_zero, List.set_cons_succ]
      refine Walk.take (v := ?_) rfl (by rfl) ?_ ?_
      rotate_left
      · (intro w' hSw; (try dsimp only at hSw); go_simp <;> with_reducible rfl)
      try simp only [Act.put, List.setIfInBounds_toArray, List.set_cons_zero, List.set_cons_succ]
      refine Walk.take (v := ?_) rfl (by rfl) ?_ ?_
      rotate_left
      · (intro w' hSw; (try dsimp only at hSw); go_simp <;> with_reducible rfl)
      try simp only [Act.put, List.setIfInBounds_toArray, List.set_cons_zero, List.set_cons_succ]
      refine Walk.act rfl (by rfl) (fun K hK => ?_)
      go_simp
      go_at_call 22
      refine (qsub_any (w := W.drew) (rZ.below (bel_drew (Below.refl W.heap.size W))) (a10.below (bel_drew (Below.refl W.heap.size W))) (by decide) (by decide) (by decide) (by decide) (hT.below (bel_trans HB10.out (bel_drew (Below.refl W.heap.size W))))).mono ?_
      rintro e t1' ⟨x1, y1, z1', r1, rfl, h1⟩
      have X1 : Below W.heap.size W t1' := bel_trans (bel_drew (Below.refl W.heap.size W)) h1
      refine hK.out _ _ (HK.out _ X1) ?_
      clear hK K
      try simp only [Act.put, List.setIfInBounds_toArray, List.set_cons_zero, List.set_cons_succ]
      refine Walk.act rfl (by rfl) (fun K hK => ?_)
      go_simp
      go_at_call 23
      refine (abs_any (w := t1') r1.v (by decide) (by decide) (hT.below (bel_trans HB10.out X1))).mono ?_
      rintro e t2' ⟨x2, y2, z2', r2, rfl, h2⟩
      have X2 : Below W.heap.size W t2' := bel_trans X1 h2
      refine hK.out _ _ (HK.out _ X2) ?_
      clear hK K
      try simp only [Act.put, List.setIfInBounds_toArray, List.set_cons_zero, List.set_cons_succ]
      refine Walk.act rfl (by rfl) (fun K hK => ?_)
      go_simp
      go_at_call 22
      refine (qsub_any (w := t2') (rG.below X2) (a10.below X2) (by decide) (by decide) (by decide) (by decide) (hT.below (bel_trans HB10.out X2))).mono ?_
      rintro e t3' ⟨x3, y3, z3', r3, rfl, h3⟩
      have X3 : Below W.heap.size W t3' := bel_trans X2 h3
      refine hK.out _ _ (HK.out _ X3) ?_
      clear hK K
      try simp only [Act.put, List.setIfInBounds_toArray, List.set_cons_zero, List.set_cons_succ]
      refine Walk.act rfl (by rfl) (fun K hK => ?_)
      go_simp
      go_at_call 23
      refine (abs_any (w := t3') r3.v (by decide) (by decide) (hT.below (bel_trans HB10.out X3))).mono ?_
      rintro e t4' ⟨x4, y4, z4', r4, rfl, h4⟩
      have X4 : Below W.heap.size W t4' := bel_trans X3 h4
      refine hK.out _ _ (HK.out _ X4) ?_
      clear hK K
      try simp only [Act.put, List.setIfInBounds_toArray, List.set_cons_zero, List.set_cons_succ]
      refine Walk.act rfl (by rfl) (fun K hK => ?_)
      go_simp
      go_at_call 18
      refine (qcmp_any (w := t4') ((r2.below h3).below h4).v r4.v (by decide) (by decide)).mono ?_
      rintro e t5' ⟨rfl, h5⟩
      have X5 : Below W.heap.size W t5' := bel_trans X4 h5
      refine hK.out _ _ (HK.out _ X5) ?_
      clear hK K
      try simp only [Act.put, List.setIfInBounds_toArray, List.set_cons_zero, List.set_cons_succ]
      refine Walk.take (v := ?_) rfl (by rfl) ?_ ?_
      rotate_left
      · (intro w' hSw; (try dsimp only at hSw); go_simp <;> with_reducible rfl)
      try simp only [Act.put, List.setIfInBounds_toArray, List.set_cons_zero, List.set_cons_succ]
      refine Walk.take (v := ?_) rfl (by rfl) ?_ ?_
      rotate_left
      · (intro w' hSw; (try dsimp only at hSw); go_simp <;> with_reducible rfl)
      try simp only [Act.put, List.setIfInBounds_toArray, List.set_cons_zero, List.set_cons_succ]
      refine Walk.take (v := ?_) rfl (by rfl) ?_ ?_
      rotate_left
      · (intro w' hSw; (try dsimp only at hSw); go_simp <;> with_reducible rfl)
      try simp only [Act.put, List.setIfInBounds_toArray, List.set_cons_zero, List.set_cons_succ]
      refine Walk.take (v := ?_) rfl (by rfl) ?_ ?_
      rotate_left
      · (intro w' hSw; (try dsimp only at hSw); go_simp <;> with_reducible rfl)
      try simp only [Act.put, List.setIfInBounds_toArray, List.set_cons_zero, List.set_cons_succ]
      refine Walk.done ?_
      have HE := Lib.hid (bel_trans HB10.out X5)
      go_wp2_with fail
      go_ret
      exact ⟨rfl, HE.out⟩
theorem lholds_walk (s : Bool) (A E : Option Addr) (n c m d : Nat) (g : Int) (w : World) (ha : NatIn w A n c) (hb : NatIn w E m d) (hg : Word g) (hT : TabOk w) :
    Calls Tryd.prog 5 #[.agg #[.bool s, .slice A n c, .slice E m d], .int .u64 g] w fun x w' => x = .returned (.bool true) ∧ Below w.heap.size w w' := by
  by_cases h : 6 < n ∨ 6 < m
  · exact lholds_long s A E n c m d g w hT h
  · obtain ⟨r, hr⟩ := in_rv s ha hb (show n ≤ 6 by omega) (by omega)
    exact lholds_short s A E n c m d g w r hg hr hT (by simp; omega) (by simp; omega)
end Go.Proofs.YtdjhpplcdkgfgaaDoor
