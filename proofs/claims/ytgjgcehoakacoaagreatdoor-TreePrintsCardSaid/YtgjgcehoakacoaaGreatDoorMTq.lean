/-
  flyballref10's Printer: stmts, the lines of a block.
  flyballref10's Printer: Print, a program.
  TreePrints' loop that asks for each float's text: an append in a region that draws its order; the floats of a program: how many, and that they are words.
-/
import Derived.Test.YtgjgcehoakacoaaGreatDoorMTp
import Derived.Deep.RegionHeld3
import Derived.Deep.RegionLaw
namespace Go.Proofs.YtgjgcehoakacoaaGreatDoor
open Go.RowKit
set_option maxRecDepth 100000

theorem tabs_next (d : Nat) : (⟨(tabs d).toArray⟩ : ByteArray) ++ ⟨#[9]⟩ = ⟨(tabs (d + 1)).toArray⟩ := by
  apply zbytes
  simp [ByteArray.data_append, tabs, List.replicate_succ']
theorem blk_len (B : Nat) (w : World) (s : Sl) (k : Nat → St) (h : SsIn B w s k) (d : Nat) (hd : d + sm (fun i => (k i).wt) s.n ≤ 2000) (j : Nat) (hj : j ≤ s.n) : (cat (fun i => (k i).txt prT d) j).length ≤ 14000000 := by
  have h1 := cat_bound (f := fun i => (k i).txt prT d) (g := fun i => (k i).wt) (n := j) (fun i hi => St.txt_len B w _ (h.2.2 i (by omega)) d (by have := sm_one (f := fun i => (k i).wt) (show i < s.n by omega); omega))
  have h2 := sm_le (f := fun i => (k i).wt) hj
  omega
/-- What stmts answers on a block. -/
def GB (B : Nat) (P : Prn) (s : Sl) (k : Nat → St) : Prop := ∀ (d : Nat) (w : World), SsIn B w s k → P.In B w → B ≤ w.heap.size → (∀ x ∈ cat (fun i => (k i).fls) s.n, x ∈ P.l) → d + sm (fun i => (k i).wt) s.n ≤ 2000 →
  Calls Tryz.prog 36 #[P.v, .slice s.ao s.n s.c, .string ⟨(tabs d).toArray⟩] w fun r w' => r = .returned (.string ⟨(cat (fun i => (k i).txt prT d) s.n).toArray⟩) ∧ Below w.heap.size w w'
theorem ln1a (s : St) (d : Nat) (L : List UInt8) (h : s.h.kd = 1) (hx : s.h.xs.n = 0) : (⟨L.toArray⟩ : ByteArray) ++ ⟨(tabs d).toArray⟩ ++ ⟨s.h.nm.toArray⟩ ++ ⟨#[32, 61, 32]⟩ ++ ⟨(s.e.txt prT).toArray⟩ ++ ⟨#[59, 10]⟩ = ⟨(L ++ s.txt prT d).toArray⟩ := by
  apply zbytes
  rw [St.txt_eq]
  simp [lineT, nameT, h, hx, ByteArray.data_append]
theorem ln1b (s : St) (d : Nat) (L : List UInt8) (h : s.h.kd = 1) (hx : 0 < s.h.xs.n) : (⟨L.toArray⟩ : ByteArray) ++ ⟨(tabs d).toArray⟩ ++ ⟨s.h.nm.toArray⟩ ++ ⟨#[91]⟩ ++ ⟨((s.x 0).txt prT).toArray⟩ ++ ⟨#[93]⟩ ++ ⟨#[32, 61, 32]⟩ ++ ⟨(s.e.txt prT).toArray⟩ ++ ⟨#[59, 10]⟩ = ⟨(L ++ s.txt prT d).toArray⟩ := by
  apply zbytes
  rw [St.txt_eq]
  simp [lineT, nameT, h, hx, ByteArray.data_append]
theorem ln2a (s : St) (d : Nat) (L : List UInt8) (h : s.h.kd = 2) (hx : s.h.es.n = 0) : (⟨L.toArray⟩ : ByteArray) ++ ⟨(tabs d).toArray⟩ ++ ⟨#[105, 102, 32]⟩ ++ ⟨(s.e.txt prT).toArray⟩ ++ ⟨#[32, 123, 10]⟩ ++ ⟨(cat (fun i => (s.t i).txt prT (d + 1)) s.h.ts.n).toArray⟩ ++ ⟨(tabs d).toArray⟩ ++ ⟨#[125]⟩ ++ ⟨#[10]⟩ = ⟨(L ++ s.txt prT d).toArray⟩ := by
  apply zbytes
  rw [St.txt_eq]
  simp [lineT, h, hx, ByteArray.data_append]
theorem ln2b (s : St) (d : Nat) (L : List UInt8) (h : s.h.kd = 2) (hx : 0 < s.h.es.n) : (⟨L.toArray⟩ : ByteArray) ++ ⟨(tabs d).toArray⟩ ++ ⟨#[105, 102, 32]⟩ ++ ⟨(s.e.txt prT).toArray⟩ ++ ⟨#[32, 123, 10]⟩ ++ ⟨(cat (fun i => (s.t i).txt prT (d + 1)) s.h.ts.n).toArray⟩ ++ ⟨(tabs d).toArray⟩ ++ ⟨#[125]⟩ ++ ⟨#[32, 101, 108, 115, 101, 32, 123, 10]⟩ ++ ⟨(cat (fun i => (s.l i).txt prT (d + 1)) s.h.es.n).toArray⟩ ++ ⟨(tabs d).toArray⟩ ++ ⟨#[125]⟩ ++ ⟨#[10]⟩ = ⟨(L ++ s.txt prT d).toArray⟩ := by
  apply zbytes
  rw [St.txt_eq]
  simp [lineT, h, hx, ByteArray.data_append]
theorem ln3 (s : St) (d : Nat) (L : List UInt8) (h : s.h.kd = 3) : (⟨L.toArray⟩ : ByteArray) ++ ⟨(tabs d).toArray⟩ ++ ⟨#[102, 111, 114, 32]⟩ ++ ⟨s.h.nm.toArray⟩ ++ ⟨#[32, 61, 32]⟩ ++ ⟨(Lib.itoa s.h.lo).toArray⟩ ++ ⟨#[32, 46, 46, 32]⟩ ++ ⟨(Lib.itoa s.h.hi).toArray⟩ ++ ⟨#[32, 123, 10]⟩ ++ ⟨(cat (fun i => (s.t i).txt prT (d + 1)) s.h.ts.n).toArray⟩ ++ ⟨(tabs d).toArray⟩ ++ ⟨#[125, 10]⟩ = ⟨(L ++ s.txt prT d).toArray⟩ := by
  apply zbytes
  rw [St.txt_eq]
  simp [lineT, h, ByteArray.data_append]
theorem ln0 (s : St) (d : Nat) (L : List UInt8) (h1 : s.h.kd ≠ 1) (h2 : s.h.kd ≠ 2) (h3 : s.h.kd ≠ 3) : (⟨L.toArray⟩ : ByteArray) = ⟨(L ++ s.txt prT d).toArray⟩ := by
  rw [St.txt_eq]
  simp [lineT, h1, h2, h3]
set_option maxHeartbeats 6400000 in
theorem gStmts_of (B : Nat) (P : Prn) (s : Sl) (k : Nat → St) (ih : ∀ i, i < s.n → GB B P (k i).h.ts (k i).t ∧ GB B P (k i).h.es (k i).l) : GB B P s k := by
  intro d w hX hP hB hf hw
  have LB := Lib.hid (blk_len B w s k hX d hw)
  obtain ⟨ao, n, c⟩ := s
  dsimp only at *
  have HI := Lib.hid hX
  have IH := Lib.hid ih
  have HP := Lib.hid hP
  have HB := Lib.hid hB
  have HF := Lib.hid hf
  have HW := Lib.hid hw
  have hmx : n ≤ maxLen := Nat.le_trans hX.1.1 hX.1.2.1
  unfold maxLen at hmx
  have HM := Lib.hid hmx
  have BX := Lib.hid (bx_bel (Below.refl w.heap.size w) (Nat.le_refl _) (rO P))
  have GX := Lib.hid (bx_new w (rO P))
  have hz := bx_size w (rO P)
  clear ih hX hP hB hf hw hmx
  show Calls Tryz.prog 36 #[.agg #[.slice P.fa P.l.length P.fc, .slice P.ta P.l.length P.tc], .slice ao n c, .string ⟨(tabs d).toArray⟩] w _
  go_enter Tryz.func36, Tryz.ntmps36
  have SADD := sadd_h
  go_upto_region 1 with fail
  rw [bx_r w P]
  generalize bx w (rO P) = W at *
  go_wp2_with fail
  go_loopg [7, 8] n (fun gk s i wr => ∃ j : Nat, s = .string ⟨(cat (fun i => (k i).txt prT d) j).toArray⟩ ∧ i = .int .i64 (j : Int) ∧ Hid (gk = n - j ∧ j ≤ n) ∧ Hid (Below w.heap.size w wr) ∧ Hid (wr.heap[w.heap.size]? = some (rO P)))
  case atStart => exact ⟨0, rfl, rfl, ⟨rfl, Nat.zero_le _⟩, BX.out, GX.out⟩
  case round =>
    clear BX GX hz
    obtain ⟨j, rfl, rfl, HJ, BEL, GX⟩ := hrel
    by_cases hlt : j < n
    · have z0 : (j : Int) < (n : Int) := by omega
      have ovi : IntKind.i64.wrap ((j : Int) + 1) = ((j + 1 : Nat) : Int) := by have := HM.out; rw [IntKind.wrap_i64]; omega
      obtain ⟨a, b, o, rfl, hA, hb, X, I⟩ := SsIn.at (HI.out.below BEL.out HB.out) (i := j) hlt
      have c0 := X.c0; have c1 := X.c1; have c2 := X.c2; have c3 := X.c3; have c4 := X.c4; have c5 := X.c5; have c6 := X.c6; have c7 := X.c7; have c8 := X.c8; have c9 := X.c9; have c10 := X.c10; have c11 := X.c11; have c12 := X.c12; have c13 := X.c13; have c14 := X.c14
      have HLT := Lib.hid hlt
      have WT : Hid (d + (k j).wt ≤ 2000) := by show _ ≤ _; have := HW.out; have := sm_one (f := fun i => (k i).wt) hlt; omega
      have FT : Hid (∀ x ∈ (k j).fls, x ∈ P.l) := fun x hx => HF.out x (mem_cat.2 ⟨j, hlt, hx⟩)
      have BS : (⟨(cat (fun i => (k i).txt prT d) j).toArray⟩ : ByteArray).size ≤ 14000000 := bz (LB.out j (Nat.le_of_lt hlt))
      have IHJ := Lib.hid (IH.out j hlt)
      have BE0 := bx_bel (Below.refl wr.heap.size wr) (Nat.le_refl _) (sO (k j).h (k j).e.h)
      have BW := Lib.hid (bel_trans BEL.out BE0)
      have G0 := Lib.hid (bx_new wr (sO (k j).h (k j).e.h))
      have GP := Lib.hid (kept_obj BE0 GX.out)
      have BV : Hid (B ≤ (bx wr (sO (k j).h (k j).e.h)).heap.size) := Nat.le_trans HB.out (Nat.le_trans BEL.out.size BE0.size)
      have IV := Lib.hid (I.below BE0 (Nat.le_trans HB.out BEL.out.size))
      have PV := Lib.hid (HP.out.below BW.out HB.out)
      clear X hb I hlt BE0
      as_aux_lemma =>
        go_upto_region 6 with fail
        rw [bx_s]
        clear c0 c1 c2 c3 c4 c5 c6 c7 c8 c9 c10 c11 c12 c13 c14 GX
        generalize bx wr (sO (k j).h (k j).e.h) = V at *
        generalize wr.heap.size = xb at *
        have HOK := IV.out.ok
        have WE := St.wt_eq (k j)
        have FE := St.fls_eq (k j)
        have NB : (⟨(k j).h.nm.toArray⟩ : ByteArray).size ≤ 2000 := bz (by have := WT.out; omega)
        have EB : (⟨((k j).e.txt prT).toArray⟩ : ByteArray).size ≤ 80000 := bz (by have := Ex.txt_len B V _ IV.out.ex; have := WT.out; omega)
        have TB : (⟨(tabs d).toArray⟩ : ByteArray).size ≤ 2000 := bz (by simp only [tabs, List.length_replicate]; have := WT.out; omega)
        have UB : (⟨(cat (fun i => ((k j).t i).txt prT (d + 1)) (k j).h.ts.n).toArray⟩ : ByteArray).size ≤ 14000000 := bz (blk_len B V _ _ IV.out.ts (d + 1) (by have := WT.out; omega) _ (Nat.le_refl _))
        have VB : (⟨(cat (fun i => ((k j).l i).txt prT (d + 1)) (k j).h.es.n).toArray⟩ : ByteArray).size ≤ 14000000 := bz (blk_len B V _ _ IV.out.es (d + 1) (by have := WT.out; omega) _ (Nat.le_refl _))
        have ZB : (⟨(Lib.itoa (k j).h.lo).toArray⟩ : ByteArray).size ≤ 21 := bz (itoa_len (by have := HOK.lo0; omega) (by have := HOK.lo1; omega))
        have YB : (⟨(Lib.itoa (k j).h.hi).toArray⟩ : ByteArray).size ≤ 21 := bz (itoa_len (by have := HOK.hi0; omega) (by have := HOK.hi1; omega))
        have EJ := Lib.hid fun w' (hb : Below V.heap.size V w') => gText_any B P (k j).e w' (IV.out.ex.below hb BV.out) (PV.out.below hb BV.out) (Nat.le_trans BV.out hb.size) (fun x hx => FT.out x (by rw [FE]; simp [hx])) (by have := WT.out; omega)
        have TJ := Lib.hid fun w' (hb : Below V.heap.size V w') => IHJ.out.1 (d + 1) w' (IV.out.ts.below hb BV.out) (PV.out.below hb BV.out) (Nat.le_trans BV.out hb.size) (fun x hx => FT.out x (by rw [FE]; simp [hx])) (by have := WT.out; omega)
        have LJ := Lib.hid fun w' (hb : Below V.heap.size V w') => IHJ.out.2 (d + 1) w' (IV.out.es.below hb BV.out) (PV.out.below hb BV.out) (Nat.le_trans BV.out hb.size) (fun x hx => FT.out x (by rw [FE]; simp [hx])) (by have := WT.out; omega)
        have XJ := Lib.hid fun (h0 : 0 < (k j).h.xs.n) w' (hb : Below V.heap.size V w') => gText_any B P ((k j).x 0) w' ((IV.out.xs.2.2 0 h0).below hb BV.out) (PV.out.below hb BV.out) (Nat.le_trans BV.out hb.size) (fun x hx => FT.out x (by rw [FE]; have : x ∈ cat (fun i => ((k j).x i).fls) (k j).h.xs.n := mem_cat.2 ⟨0, h0, hx⟩; simp [this])) (by have := WT.out; have := sm_one (f := fun i => ((k j).x i).wt) h0; omega)
        have XB : ∀ h0 : 0 < (k j).h.xs.n, (⟨(((k j).x 0).txt prT).toArray⟩ : ByteArray).size ≤ 80000 := fun h0 => bz (by have := Ex.txt_len B V _ (IV.out.xs.2.2 0 h0); have := WT.out; have := sm_one (f := fun i => ((k j).x i).wt) h0; omega)
        rw [← tabs_next] at TJ LJ
        have DL := Lib.hid fun w' => gDigits_any (k j).h.lo (by have := HOK.lo0; omega) (by have := HOK.lo1; omega) w'
        have DH := Lib.hid fun w' => gDigits_any (k j).h.hi (by have := HOK.hi0; omega) (by have := HOK.hi1; omega) w'
        have ovl : IntKind.i64.wrap (k j).h.lo = (k j).h.lo := by have := HOK.lo0; have := HOK.lo1; rw [IntKind.wrap_i64]; omega
        have ovh : IntKind.i64.wrap (k j).h.hi = (k j).h.hi := by have := HOK.hi0; have := HOK.hi1; rw [IntKind.wrap_i64]; omega
        clear HOK WE FE
        have Y := s_cells G0.out
        have y0 := Y.c0
        have y2 := Y.c2
        have y3 := Y.c3
        clear Y
        by_cases q1 : (k j).h.kd = 1
        · have b1 : ((k j).h.kd == 1) = true := by simp [q1]
          obtain ⟨xs, hxs⟩ : ∃ s, (k j).h.xs = s := ⟨_, rfl⟩
          obtain ⟨xa, xn, xc⟩ := xs
          have HXS := Lib.hid hxs
          rw [hxs] at y3
          dsimp only at y3
          have XIN := Lib.hid (show XsIn B V ⟨xa, xn, xc⟩ (k j).x by rw [← hxs]; exact IV.out.xs)
          have Q1 := Lib.hid q1
          clear q1 TJ LJ DL DH ovl ovh UB VB ZB YB
          by_cases hx : 0 < xn
          · have zx : (0 : Int) < (xn : Int) := by omega
            have hx2 : 0 < (k j).h.xs.n := by rw [hxs]; exact hx
            have XBX := XB hx2
            have XJ0 := Lib.hid (XJ.out hx2)
            have FR : Hid ((⟨(cat (fun i => (k i).txt prT d) j).toArray⟩ : ByteArray) ++ ⟨(tabs d).toArray⟩ ++ ⟨(k j).h.nm.toArray⟩ ++ ⟨#[91]⟩ ++ ⟨(((k j).x 0).txt prT).toArray⟩ ++ ⟨#[93]⟩ ++ ⟨#[32, 61, 32]⟩ ++ ⟨((k j).e.txt prT).toArray⟩ ++ ⟨#[59, 10]⟩ = ⟨(cat (fun i => (k i).txt prT d) j ++ (k j).txt prT d).toArray⟩) := ln1b (k j) d _ Q1.out hx2
            generalize (⟨(cat (fun i => (k i).txt prT d) j).toArray⟩ : ByteArray) = S at *
            generalize (⟨(tabs d).toArray⟩ : ByteArray) = T at *
            generalize (⟨(((k j).x 0).txt prT).toArray⟩ : ByteArray) = XT at *
            generalize (⟨((k j).e.txt prT).toArray⟩ : ByteArray) = E at *
            have sm1 : Sm T := sm_of TB (by decide)
            have sm2 : Sm (⟨(k j).h.nm.toArray⟩ : ByteArray) := sm_of NB (by decide)
            have lm0 : (⟨#[91]⟩ : ByteArray).size ≤ 1 := Nat.le_refl _
            have lm0S : Sm (⟨#[91]⟩ : ByteArray) := sm_of lm0 (by decide)
            have sm3 : Sm XT := sm_of XBX (by decide)
            have lm1 : (⟨#[93]⟩ : ByteArray).size ≤ 1 := Nat.le_refl _
            have lm1S : Sm (⟨#[93]⟩ : ByteArray) := sm_of lm1 (by decide)
            have lm2 : (⟨#[32, 61, 32]⟩ : ByteArray).size ≤ 3 := Nat.le_refl _
            have lm2S : Sm (⟨#[32, 61, 32]⟩ : ByteArray) := sm_of lm2 (by decide)
            have sm4 : Sm E := sm_of EB (by decide)
            have lm3 : (⟨#[59, 10]⟩ : ByteArray).size ≤ 2 := Nat.le_refl _
            have lm3S : Sm (⟨#[59, 10]⟩ : ByteArray) := sm_of lm3 (by decide)
            have m0 : Sm S := sm_of BS (by decide)
            have m1 : Sm (S ++ T) := sm_app BS TB (by decide)
            have m2 : Sm (S ++ T ++ ⟨(k j).h.nm.toArray⟩) := sm_app (bsz BS TB) NB (by decide)
            have m3 : Sm (S ++ T ++ ⟨(k j).h.nm.toArray⟩ ++ ⟨#[91]⟩) := sm_app (bsz (bsz BS TB) NB) lm0 (by decide)
            have m4 : Sm (S ++ T ++ ⟨(k j).h.nm.toArray⟩ ++ ⟨#[91]⟩ ++ XT) := sm_app (bsz (bsz (bsz BS TB) NB) lm0) XBX (by decide)
            have m5 : Sm (S ++ T ++ ⟨(k j).h.nm.toArray⟩ ++ ⟨#[91]⟩ ++ XT ++ ⟨#[93]⟩) := sm_app (bsz (bsz (bsz (bsz BS TB) NB) lm0) XBX) lm1 (by decide)
            have m6 : Sm (S ++ T ++ ⟨(k j).h.nm.toArray⟩ ++ ⟨#[91]⟩ ++ XT ++ ⟨#[93]⟩ ++ ⟨#[32, 61, 32]⟩) := sm_app (bsz (bsz (bsz (bsz (bsz BS TB) NB) lm0) XBX) lm1) lm2 (by decide)
            have m7 : Sm (S ++ T ++ ⟨(k j).h.nm.toArray⟩ ++ ⟨#[91]⟩ ++ XT ++ ⟨#[93]⟩ ++ ⟨#[32, 61, 32]⟩ ++ E) := sm_app (bsz (bsz (bsz (bsz (bsz (bsz BS TB) NB) lm0) XBX) lm1) lm2) EB (by decide)
            obtain ⟨a2, b2, o2, rfl, hA2, hb2, X2, -⟩ := XsIn.at XIN.out (i := 0) hx
            rw [Nat.zero_mul] at hA2
            have KG := Lib.hid fun w' (hb : Below V.heap.size V w') => let Q := X2.below hb2 hb BV.out; And.intro (r_cells (kept_obj hb GP.out)) (And.intro (show w'.cell? ⟨xb, 3, none⟩ = some (.slice (some a2) xn xc) by have := (s_cells (kept_obj hb G0.out)).c3; rw [HXS.out] at this; exact this) (And.intro Q.c0 (And.intro Q.c1 (And.intro Q.c2 (And.intro Q.c3 (And.intro Q.c4 (And.intro Q.c5 Q.c6)))))))
            clear hx hx2 hxs XB XJ hb2 X2
            as_aux_lemma =>
              go_upto_region 10 with fail
              clear y0 y2 y3
              go_region_held3 (fun w' => (w'.cell? ⟨w.heap.size, 0, none⟩ = some (.slice P.fa P.l.length P.fc) ∧ w'.cell? ⟨w.heap.size, 1, none⟩ = some (.slice P.ta P.l.length P.tc)) ∧ w'.cell? ⟨xb, 3, none⟩ = some (.slice (some a2) xn xc) ∧ w'.cell? ⟨b2, o2, none⟩ = some (.int .u8 ((k j).x 0).h.op) ∧ w'.cell? ⟨b2, o2 + 1, none⟩ = some (.int .i64 ((k j).x 0).h.ps) ∧ w'.cell? ⟨b2, o2 + 2, none⟩ = some (.bool ((k j).x 0).h.bo) ∧ w'.cell? ⟨b2, o2 + 3, none⟩ = some (.int .i32 ((k j).x 0).h.it) ∧ w'.cell? ⟨b2, o2 + 4, none⟩ = some (.int .u64 ((k j).x 0).h.fl) ∧ w'.cell? ⟨b2, o2 + 5, none⟩ = some (.string ⟨((k j).x 0).h.nm.toArray⟩) ∧ w'.cell? ⟨b2, o2 + 6, none⟩ = some (.slice ((k j).x 0).h.s.ao ((k j).x 0).h.s.n ((k j).x 0).h.s.c))
                (first | (refine KG.out _ ?_; (repeat (first | exact Below.refl _ _ | exact X3 | exact X2 | exact X1 | refine bel_drew ?_)); done))
                (first
                  | (go_at_call 11; refine (XJ0.out _ ?_).mono ?_; (· repeat (first | exact Below.refl _ _ | refine bel_drew ?_)); rintro x w21 ⟨rfl, b21⟩; have X1 : Below V.heap.size V w21 := (by refine bel_trans ?_ b21; repeat (first | exact Below.refl _ _ | refine bel_drew ?_))))
              all_goals
                clear KG XJ0
                obtain ⟨p0, p1⟩ := r_cells (kept_obj X1 GP.out)
                have Y := s_cells (kept_obj X1 G0.out)
                have y4 := Y.c4; have y5 := Y.c5; have y6 := Y.c6; have y7 := Y.c7; have y8 := Y.c8; have y9 := Y.c9; have y10 := Y.c10
                clear Y
                go_wp2_with fail
                refine (EJ.out _ X1).mono ?_
                rintro r w2 ⟨rfl, hb2⟩
                have B2 := bel_trans X1 hb2
                clear p0 p1 y4 y5 y6 y7 y8 y9 y10 hb2
                go_wp2_with fail
                go_roundg (n - (j + 1))
                case measure => have := HJ.out; have := HLT.out; omega
                case rel => exact ⟨j + 1, by show Value.string _ = Value.string ⟨(cat _ j ++ _).toArray⟩; rw [← FR.out], by go_num, ⟨rfl, HLT.out⟩, bel_trans BW.out B2, kept_obj B2 GP.out⟩
          · have zx : ¬ (0 : Int) < (xn : Int) := by omega
            have hx2 : (k j).h.xs.n = 0 := by rw [hxs]; show xn = 0; omega
            have FR : Hid ((⟨(cat (fun i => (k i).txt prT d) j).toArray⟩ : ByteArray) ++ ⟨(tabs d).toArray⟩ ++ ⟨(k j).h.nm.toArray⟩ ++ ⟨#[32, 61, 32]⟩ ++ ⟨((k j).e.txt prT).toArray⟩ ++ ⟨#[59, 10]⟩ = ⟨(cat (fun i => (k i).txt prT d) j ++ (k j).txt prT d).toArray⟩) := ln1a (k j) d _ Q1.out hx2
            generalize (⟨(cat (fun i => (k i).txt prT d) j).toArray⟩ : ByteArray) = S at *
            generalize (⟨(tabs d).toArray⟩ : ByteArray) = T at *
            generalize (⟨((k j).e.txt prT).toArray⟩ : ByteArray) = E at *
            have sm1 : Sm T := sm_of TB (by decide)
            have sm2 : Sm (⟨(k j).h.nm.toArray⟩ : ByteArray) := sm_of NB (by decide)
            have lm0 : (⟨#[32, 61, 32]⟩ : ByteArray).size ≤ 3 := Nat.le_refl _
            have lm0S : Sm (⟨#[32, 61, 32]⟩ : ByteArray) := sm_of lm0 (by decide)
            have sm3 : Sm E := sm_of EB (by decide)
            have lm1 : (⟨#[59, 10]⟩ : ByteArray).size ≤ 2 := Nat.le_refl _
            have lm1S : Sm (⟨#[59, 10]⟩ : ByteArray) := sm_of lm1 (by decide)
            have m0 : Sm S := sm_of BS (by decide)
            have m1 : Sm (S ++ T) := sm_app BS TB (by decide)
            have m2 : Sm (S ++ T ++ ⟨(k j).h.nm.toArray⟩) := sm_app (bsz BS TB) NB (by decide)
            have m3 : Sm (S ++ T ++ ⟨(k j).h.nm.toArray⟩ ++ ⟨#[32, 61, 32]⟩) := sm_app (bsz (bsz BS TB) NB) lm0 (by decide)
            have m4 : Sm (S ++ T ++ ⟨(k j).h.nm.toArray⟩ ++ ⟨#[32, 61, 32]⟩ ++ E) := sm_app (bsz (bsz (bsz BS TB) NB) lm0) EB (by decide)
            clear hx hx2 hxs XB XJ
            as_aux_lemma =>
              go_upto_region 11 with fail
              have XR : Below V.heap.size V V := Below.refl _ _
              clear y0 y2 y3
              obtain ⟨p0, p1⟩ := r_cells (kept_obj XR GP.out)
              have Y := s_cells (kept_obj XR G0.out)
              have y4 := Y.c4; have y5 := Y.c5; have y6 := Y.c6; have y7 := Y.c7; have y8 := Y.c8; have y9 := Y.c9; have y10 := Y.c10
              clear Y
              go_wp2_with fail
              refine (EJ.out _ XR).mono ?_
              rintro r w2 ⟨rfl, hb2⟩
              have B2 := bel_trans XR hb2
              clear p0 p1 y4 y5 y6 y7 y8 y9 y10 hb2
              go_wp2_with fail
              go_roundg (n - (j + 1))
              case measure => have := HJ.out; have := HLT.out; omega
              case rel => exact ⟨j + 1, by show Value.string _ = Value.string ⟨(cat _ j ++ _).toArray⟩; rw [← FR.out], by go_num, ⟨rfl, HLT.out⟩, bel_trans BW.out B2, kept_obj B2 GP.out⟩
        by_cases q2 : (k j).h.kd = 2
        · have b1 : ((k j).h.kd == 1) = false := by simp [q1]
          have b2 : ((k j).h.kd == 2) = true := by simp [q2]
          have Q2 := Lib.hid q2
          clear q1 q2 XJ XB DL DH ovl ovh ZB YB NB y2 y3
          have KG := Lib.hid fun w' (hb : Below V.heap.size V w') => let Q := s_cells (kept_obj hb G0.out); And.intro (r_cells (kept_obj hb GP.out)) ((And.intro Q.c4 (And.intro Q.c5 (And.intro Q.c6 (And.intro Q.c7 (And.intro Q.c8 (And.intro Q.c9 (And.intro Q.c10 Q.c13))))))))
          by_cases hx : 0 < (k j).h.es.n
          · have zx : (0 : Int) < ((k j).h.es.n : Int) := by omega
            have FR : Hid ((⟨(cat (fun i => (k i).txt prT d) j).toArray⟩ : ByteArray) ++ ⟨(tabs d).toArray⟩ ++ ⟨#[105, 102, 32]⟩ ++ ⟨((k j).e.txt prT).toArray⟩ ++ ⟨#[32, 123, 10]⟩ ++ ⟨(cat (fun i => ((k j).t i).txt prT (d + 1)) (k j).h.ts.n).toArray⟩ ++ ⟨(tabs d).toArray⟩ ++ ⟨#[125]⟩ ++ ⟨#[32, 101, 108, 115, 101, 32, 123, 10]⟩ ++ ⟨(cat (fun i => ((k j).l i).txt prT (d + 1)) (k j).h.es.n).toArray⟩ ++ ⟨(tabs d).toArray⟩ ++ ⟨#[125]⟩ ++ ⟨#[10]⟩ = ⟨(cat (fun i => (k i).txt prT d) j ++ (k j).txt prT d).toArray⟩) := ln2b (k j) d _ Q2.out hx
            generalize (⟨(cat (fun i => (k i).txt prT d) j).toArray⟩ : ByteArray) = S at *
            generalize (⟨(tabs d).toArray⟩ : ByteArray) = T at *
            generalize (⟨((k j).e.txt prT).toArray⟩ : ByteArray) = E at *
            generalize (⟨(cat (fun i => ((k j).t i).txt prT (d + 1)) (k j).h.ts.n).toArray⟩ : ByteArray) = TT at *
            generalize (⟨(cat (fun i => ((k j).l i).txt prT (d + 1)) (k j).h.es.n).toArray⟩ : ByteArray) = LT at *
            have sm1 : Sm T := sm_of TB (by decide)
            have lm0 : (⟨#[105, 102, 32]⟩ : ByteArray).size ≤ 3 := Nat.le_refl _
            have lm0S : Sm (⟨#[105, 102, 32]⟩ : ByteArray) := sm_of lm0 (by decide)
            have sm2 : Sm E := sm_of EB (by decide)
            have lm1 : (⟨#[32, 123, 10]⟩ : ByteArray).size ≤ 3 := Nat.le_refl _
            have lm1S : Sm (⟨#[32, 123, 10]⟩ : ByteArray) := sm_of lm1 (by decide)
            have sm3 : Sm TT := sm_of UB (by decide)
            have lm2 : (⟨#[125]⟩ : ByteArray).size ≤ 1 := Nat.le_refl _
            have lm2S : Sm (⟨#[125]⟩ : ByteArray) := sm_of lm2 (by decide)
            have lm3 : (⟨#[32, 101, 108, 115, 101, 32, 123, 10]⟩ : ByteArray).size ≤ 8 := Nat.le_refl _
            have lm3S : Sm (⟨#[32, 101, 108, 115, 101, 32, 123, 10]⟩ : ByteArray) := sm_of lm3 (by decide)
            have sm4 : Sm LT := sm_of VB (by decide)
            have lm4 : (⟨#[10]⟩ : ByteArray).size ≤ 1 := Nat.le_refl _
            have lm4S : Sm (⟨#[10]⟩ : ByteArray) := sm_of lm4 (by decide)
            have m0 : Sm S := sm_of BS (by decide)
            have m1 : Sm (S ++ T) := sm_app BS TB (by decide)
            have m2 : Sm (S ++ T ++ ⟨#[105, 102, 32]⟩) := sm_app (bsz BS TB) lm0 (by decide)
            have m3 : Sm (S ++ T ++ ⟨#[105, 102, 32]⟩ ++ E) := sm_app (bsz (bsz BS TB) lm0) EB (by decide)
            have m4 : Sm (S ++ T ++ ⟨#[105, 102, 32]⟩ ++ E ++ ⟨#[32, 123, 10]⟩) := sm_app (bsz (bsz (bsz BS TB) lm0) EB) lm1 (by decide)
            have m5 : Sm (S ++ T ++ ⟨#[105, 102, 32]⟩ ++ E ++ ⟨#[32, 123, 10]⟩ ++ TT) := sm_app (bsz (bsz (bsz (bsz BS TB) lm0) EB) lm1) UB (by decide)
            have m6 : Sm (S ++ T ++ ⟨#[105, 102, 32]⟩ ++ E ++ ⟨#[32, 123, 10]⟩ ++ TT ++ T) := sm_app (bsz (bsz (bsz (bsz (bsz BS TB) lm0) EB) lm1) UB) TB (by decide)
            have m7 : Sm (S ++ T ++ ⟨#[105, 102, 32]⟩ ++ E ++ ⟨#[32, 123, 10]⟩ ++ TT ++ T ++ ⟨#[125]⟩) := sm_app (bsz (bsz (bsz (bsz (bsz (bsz BS TB) lm0) EB) lm1) UB) TB) lm2 (by decide)
            have m8 : Sm (S ++ T ++ ⟨#[105, 102, 32]⟩ ++ E ++ ⟨#[32, 123, 10]⟩ ++ TT ++ T ++ ⟨#[125]⟩ ++ ⟨#[32, 101, 108, 115, 101, 32, 123, 10]⟩) := sm_app (bsz (bsz (bsz (bsz (bsz (bsz (bsz BS TB) lm0) EB) lm1) UB) TB) lm2) lm3 (by decide)
            have m9 : Sm (S ++ T ++ ⟨#[105, 102, 32]⟩ ++ E ++ ⟨#[32, 123, 10]⟩ ++ TT ++ T ++ ⟨#[125]⟩ ++ ⟨#[32, 101, 108, 115, 101, 32, 123, 10]⟩ ++ LT) := sm_app (bsz (bsz (bsz (bsz (bsz (bsz (bsz (bsz BS TB) lm0) EB) lm1) UB) TB) lm2) lm3) VB (by decide)
            have m10 : Sm (S ++ T ++ ⟨#[105, 102, 32]⟩ ++ E ++ ⟨#[32, 123, 10]⟩ ++ TT ++ T ++ ⟨#[125]⟩ ++ ⟨#[32, 101, 108, 115, 101, 32, 123, 10]⟩ ++ LT ++ T) := sm_app (bsz (bsz (bsz (bsz (bsz (bsz (bsz (bsz (bsz BS TB) lm0) EB) lm1) UB) TB) lm2) lm3) VB) TB (by decide)
            have m11 : Sm (S ++ T ++ ⟨#[105, 102, 32]⟩ ++ E ++ ⟨#[32, 123, 10]⟩ ++ TT ++ T ++ ⟨#[125]⟩ ++ ⟨#[32, 101, 108, 115, 101, 32, 123, 10]⟩ ++ LT ++ T ++ ⟨#[125]⟩) := sm_app (bsz (bsz (bsz (bsz (bsz (bsz (bsz (bsz (bsz (bsz BS TB) lm0) EB) lm1) UB) TB) lm2) lm3) VB) TB) lm2 (by decide)
            have sT9 : Sm (T ++ (⟨#[9]⟩ : ByteArray)) := sm_app TB (show (⟨#[9]⟩ : ByteArray).size ≤ 1 from Nat.le_refl _) (by decide)
            have s9 : Sm (⟨#[9]⟩ : ByteArray) := by unfold Sm; decide
            clear hx
            as_aux_lemma =>
              go_upto_region 13 with fail
              clear y0
              go_region_held3 (fun w' => (w'.cell? ⟨w.heap.size, 0, none⟩ = some (.slice P.fa P.l.length P.fc) ∧ w'.cell? ⟨w.heap.size, 1, none⟩ = some (.slice P.ta P.l.length P.tc)) ∧ w'.cell? ⟨xb, 4, none⟩ = some (.int .u8 (k j).e.h.op) ∧ w'.cell? ⟨xb, 5, none⟩ = some (.int .i64 (k j).e.h.ps) ∧ w'.cell? ⟨xb, 6, none⟩ = some (.bool (k j).e.h.bo) ∧ w'.cell? ⟨xb, 7, none⟩ = some (.int .i32 (k j).e.h.it) ∧ w'.cell? ⟨xb, 8, none⟩ = some (.int .u64 (k j).e.h.fl) ∧ w'.cell? ⟨xb, 9, none⟩ = some (.string ⟨(k j).e.h.nm.toArray⟩) ∧ w'.cell? ⟨xb, 10, none⟩ = some (.slice (k j).e.h.s.ao (k j).e.h.s.n (k j).e.h.s.c) ∧ w'.cell? ⟨xb, 13, none⟩ = some (.slice (k j).h.ts.ao (k j).h.ts.n (k j).h.ts.c))
                (first | (refine KG.out _ ?_; (repeat (first | exact Below.refl _ _ | exact X3 | exact X2 | exact X1 | refine bel_drew ?_)); done))
                (first
                  | (go_at_call 11; refine (EJ.out _ ?_).mono ?_; (· repeat (first | exact Below.refl _ _ | refine bel_drew ?_)); rintro x w21 ⟨rfl, b21⟩; have X1 : Below V.heap.size V w21 := (by refine bel_trans ?_ b21; repeat (first | exact Below.refl _ _ | refine bel_drew ?_)))
                  | (go_at_call 36; have _ := X1; refine (TJ.out _ ?_).mono ?_; (· repeat (first | exact Below.refl _ _ | exact X1 | refine bel_drew ?_)); rintro x w22 ⟨rfl, b22⟩; have X2 : Below V.heap.size V w22 := (by refine bel_trans ?_ b22; repeat (first | exact Below.refl _ _ | exact X1 | refine bel_drew ?_))))
              all_goals
                clear KG EJ TJ
                have y14 := (s_cells (kept_obj X2 G0.out)).c14
                obtain ⟨p0, p1⟩ := r_cells (kept_obj X2 GP.out)
                go_wp2_with fail
                refine (LJ.out _ X2).mono ?_
                rintro r w2 ⟨rfl, hb2⟩
                have B2 := bel_trans X2 hb2
                clear p0 p1 y14 hb2
                go_wp2_with fail
                go_roundg (n - (j + 1))
                case measure => have := HJ.out; have := HLT.out; omega
                case rel => exact ⟨j + 1, by show Value.string _ = Value.string ⟨(cat _ j ++ _).toArray⟩; rw [← FR.out], by go_num, ⟨rfl, HLT.out⟩, bel_trans BW.out B2, kept_obj B2 GP.out⟩
          · have zx : ¬ (0 : Int) < ((k j).h.es.n : Int) := by omega
            have FR : Hid ((⟨(cat (fun i => (k i).txt prT d) j).toArray⟩ : ByteArray) ++ ⟨(tabs d).toArray⟩ ++ ⟨#[105, 102, 32]⟩ ++ ⟨((k j).e.txt prT).toArray⟩ ++ ⟨#[32, 123, 10]⟩ ++ ⟨(cat (fun i => ((k j).t i).txt prT (d + 1)) (k j).h.ts.n).toArray⟩ ++ ⟨(tabs d).toArray⟩ ++ ⟨#[125]⟩ ++ ⟨#[10]⟩ = ⟨(cat (fun i => (k i).txt prT d) j ++ (k j).txt prT d).toArray⟩) := ln2a (k j) d _ Q2.out (by omega)
            generalize (⟨(cat (fun i => (k i).txt prT d) j).toArray⟩ : ByteArray) = S at *
            generalize (⟨(tabs d).toArray⟩ : ByteArray) = T at *
            generalize (⟨((k j).e.txt prT).toArray⟩ : ByteArray) = E at *
            generalize (⟨(cat (fun i => ((k j).t i).txt prT (d + 1)) (k j).h.ts.n).toArray⟩ : ByteArray) = TT at *
            have sm1 : Sm T := sm_of TB (by decide)
            have lm0 : (⟨#[105, 102, 32]⟩ : ByteArray).size ≤ 3 := Nat.le_refl _
            have lm0S : Sm (⟨#[105, 102, 32]⟩ : ByteArray) := sm_of lm0 (by decide)
            have sm2 : Sm E := sm_of EB (by decide)
            have lm1 : (⟨#[32, 123, 10]⟩ : ByteArray).size ≤ 3 := Nat.le_refl _
            have lm1S : Sm (⟨#[32, 123, 10]⟩ : ByteArray) := sm_of lm1 (by decide)
            have sm3 : Sm TT := sm_of UB (by decide)
            have lm2 : (⟨#[125]⟩ : ByteArray).size ≤ 1 := Nat.le_refl _
            have lm2S : Sm (⟨#[125]⟩ : ByteArray) := sm_of lm2 (by decide)
            have lm3 : (⟨#[10]⟩ : ByteArray).size ≤ 1 := Nat.le_refl _
            have lm3S : Sm (⟨#[10]⟩ : ByteArray) := sm_of lm3 (by decide)
            have m0 : Sm S := sm_of BS (by decide)
            have m1 : Sm (S ++ T) := sm_app BS TB (by decide)
            have m2 : Sm (S ++ T ++ ⟨#[105, 102, 32]⟩) := sm_app (bsz BS TB) lm0 (by decide)
            have m3 : Sm (S ++ T ++ ⟨#[105, 102, 32]⟩ ++ E) := sm_app (bsz (bsz BS TB) lm0) EB (by decide)
            have m4 : Sm (S ++ T ++ ⟨#[105, 102, 32]⟩ ++ E ++ ⟨#[32, 123, 10]⟩) := sm_app (bsz (bsz (bsz BS TB) lm0) EB) lm1 (by decide)
            have m5 : Sm (S ++ T ++ ⟨#[105, 102, 32]⟩ ++ E ++ ⟨#[32, 123, 10]⟩ ++ TT) := sm_app (bsz (bsz (bsz (bsz BS TB) lm0) EB) lm1) UB (by decide)
            have m6 : Sm (S ++ T ++ ⟨#[105, 102, 32]⟩ ++ E ++ ⟨#[32, 123, 10]⟩ ++ TT ++ T) := sm_app (bsz (bsz (bsz (bsz (bsz BS TB) lm0) EB) lm1) UB) TB (by decide)
            have m7 : Sm (S ++ T ++ ⟨#[105, 102, 32]⟩ ++ E ++ ⟨#[32, 123, 10]⟩ ++ TT ++ T ++ ⟨#[125]⟩) := sm_app (bsz (bsz (bsz (bsz (bsz (bsz BS TB) lm0) EB) lm1) UB) TB) lm2 (by decide)
            have sT9 : Sm (T ++ (⟨#[9]⟩ : ByteArray)) := sm_app TB (show (⟨#[9]⟩ : ByteArray).size ≤ 1 from Nat.le_refl _) (by decide)
            have s9 : Sm (⟨#[9]⟩ : ByteArray) := by unfold Sm; decide
            clear hx LJ VB
            as_aux_lemma =>
              go_upto_region 13 with fail
              clear y0
              go_region_held3 (fun w' => (w'.cell? ⟨w.heap.size, 0, none⟩ = some (.slice P.fa P.l.length P.fc) ∧ w'.cell? ⟨w.heap.size, 1, none⟩ = some (.slice P.ta P.l.length P.tc)) ∧ w'.cell? ⟨xb, 4, none⟩ = some (.int .u8 (k j).e.h.op) ∧ w'.cell? ⟨xb, 5, none⟩ = some (.int .i64 (k j).e.h.ps) ∧ w'.cell? ⟨xb, 6, none⟩ = some (.bool (k j).e.h.bo) ∧ w'.cell? ⟨xb, 7, none⟩ = some (.int .i32 (k j).e.h.it) ∧ w'.cell? ⟨xb, 8, none⟩ = some (.int .u64 (k j).e.h.fl) ∧ w'.cell? ⟨xb, 9, none⟩ = some (.string ⟨(k j).e.h.nm.toArray⟩) ∧ w'.cell? ⟨xb, 10, none⟩ = some (.slice (k j).e.h.s.ao (k j).e.h.s.n (k j).e.h.s.c) ∧ w'.cell? ⟨xb, 13, none⟩ = some (.slice (k j).h.ts.ao (k j).h.ts.n (k j).h.ts.c))
                (first | (refine KG.out _ ?_; (repeat (first | exact Below.refl _ _ | exact X3 | exact X2 | exact X1 | refine bel_drew ?_)); done))
                (first
                  | (go_at_call 11; refine (EJ.out _ ?_).mono ?_; (· repeat (first | exact Below.refl _ _ | refine bel_drew ?_)); rintro x w21 ⟨rfl, b21⟩; have X1 : Below V.heap.size V w21 := (by refine bel_trans ?_ b21; repeat (first | exact Below.refl _ _ | refine bel_drew ?_)))
                  | (go_at_call 36; have _ := X1; refine (TJ.out _ ?_).mono ?_; (· repeat (first | exact Below.refl _ _ | exact X1 | refine bel_drew ?_)); rintro x w22 ⟨rfl, b22⟩; have X2 : Below V.heap.size V w22 := (by refine bel_trans ?_ b22; repeat (first | exact Below.refl _ _ | exact X1 | refine bel_drew ?_))))
              all_goals
                clear KG EJ TJ
                have y14 := (s_cells (kept_obj X2 G0.out)).c14
                go_wp2_with fail
                go_roundg (n - (j + 1))
                case measure => have := HJ.out; have := HLT.out; omega
                case rel => exact ⟨j + 1, by show Value.string _ = Value.string ⟨(cat _ j ++ _).toArray⟩; rw [← FR.out], by go_num, ⟨rfl, HLT.out⟩, bel_trans BW.out X2, kept_obj X2 GP.out⟩
        have b1 : ((k j).h.kd == 1) = false := by simp [q1]
        have b2 : ((k j).h.kd == 2) = false := by simp [q2]
        by_cases q3 : (k j).h.kd = 3
        · have b3 : ((k j).h.kd == 3) = true := by simp [q3]
          have Q3 := Lib.hid q3
          clear q1 q2 q3 XJ XB EJ EB LJ VB y2 y3
          have KG := Lib.hid fun w' (hb : Below V.heap.size V w') => let Q := s_cells (kept_obj hb G0.out); And.intro (r_cells (kept_obj hb GP.out)) ((And.intro Q.c2 (And.intro Q.c11 (And.intro Q.c12 Q.c13))))
          have FR : Hid ((⟨(cat (fun i => (k i).txt prT d) j).toArray⟩ : ByteArray) ++ ⟨(tabs d).toArray⟩ ++ ⟨#[102, 111, 114, 32]⟩ ++ ⟨(k j).h.nm.toArray⟩ ++ ⟨#[32, 61, 32]⟩ ++ ⟨(Lib.itoa (k j).h.lo).toArray⟩ ++ ⟨#[32, 46, 46, 32]⟩ ++ ⟨(Lib.itoa (k j).h.hi).toArray⟩ ++ ⟨#[32, 123, 10]⟩ ++ ⟨(cat (fun i => ((k j).t i).txt prT (d + 1)) (k j).h.ts.n).toArray⟩ ++ ⟨(tabs d).toArray⟩ ++ ⟨#[125, 10]⟩ = ⟨(cat (fun i => (k i).txt prT d) j ++ (k j).txt prT d).toArray⟩) := ln3 (k j) d _ Q3.out
          generalize (⟨(cat (fun i => (k i).txt prT d) j).toArray⟩ : ByteArray) = S at *
          generalize (⟨(tabs d).toArray⟩ : ByteArray) = T at *
          generalize (⟨(cat (fun i => ((k j).t i).txt prT (d + 1)) (k j).h.ts.n).toArray⟩ : ByteArray) = TT at *
          generalize (⟨(Lib.itoa (k j).h.lo).toArray⟩ : ByteArray) = ZL at *
          generalize (⟨(Lib.itoa (k j).h.hi).toArray⟩ : ByteArray) = ZH at *
          have sm1 : Sm T := sm_of TB (by decide)
          have lm0 : (⟨#[102, 111, 114, 32]⟩ : ByteArray).size ≤ 4 := Nat.le_refl _
          have lm0S : Sm (⟨#[102, 111, 114, 32]⟩ : ByteArray) := sm_of lm0 (by decide)
          have sm2 : Sm (⟨(k j).h.nm.toArray⟩ : ByteArray) := sm_of NB (by decide)
          have lm1 : (⟨#[32, 61, 32]⟩ : ByteArray).size ≤ 3 := Nat.le_refl _
          have lm1S : Sm (⟨#[32, 61, 32]⟩ : ByteArray) := sm_of lm1 (by decide)
          have sm3 : Sm ZL := sm_of ZB (by decide)
          have lm2 : (⟨#[32, 46, 46, 32]⟩ : ByteArray).size ≤ 4 := Nat.le_refl _
          have lm2S : Sm (⟨#[32, 46, 46, 32]⟩ : ByteArray) := sm_of lm2 (by decide)
          have sm4 : Sm ZH := sm_of YB (by decide)
          have lm3 : (⟨#[32, 123, 10]⟩ : ByteArray).size ≤ 3 := Nat.le_refl _
          have lm3S : Sm (⟨#[32, 123, 10]⟩ : ByteArray) := sm_of lm3 (by decide)
          have sm5 : Sm TT := sm_of UB (by decide)
          have lm4 : (⟨#[125, 10]⟩ : ByteArray).size ≤ 2 := Nat.le_refl _
          have lm4S : Sm (⟨#[125, 10]⟩ : ByteArray) := sm_of lm4 (by decide)
          have m0 : Sm S := sm_of BS (by decide)
          have m1 : Sm (S ++ T) := sm_app BS TB (by decide)
          have m2 : Sm (S ++ T ++ ⟨#[102, 111, 114, 32]⟩) := sm_app (bsz BS TB) lm0 (by decide)
          have m3 : Sm (S ++ T ++ ⟨#[102, 111, 114, 32]⟩ ++ ⟨(k j).h.nm.toArray⟩) := sm_app (bsz (bsz BS TB) lm0) NB (by decide)
          have m4 : Sm (S ++ T ++ ⟨#[102, 111, 114, 32]⟩ ++ ⟨(k j).h.nm.toArray⟩ ++ ⟨#[32, 61, 32]⟩) := sm_app (bsz (bsz (bsz BS TB) lm0) NB) lm1 (by decide)
          have m5 : Sm (S ++ T ++ ⟨#[102, 111, 114, 32]⟩ ++ ⟨(k j).h.nm.toArray⟩ ++ ⟨#[32, 61, 32]⟩ ++ ZL) := sm_app (bsz (bsz (bsz (bsz BS TB) lm0) NB) lm1) ZB (by decide)
          have m6 : Sm (S ++ T ++ ⟨#[102, 111, 114, 32]⟩ ++ ⟨(k j).h.nm.toArray⟩ ++ ⟨#[32, 61, 32]⟩ ++ ZL ++ ⟨#[32, 46, 46, 32]⟩) := sm_app (bsz (bsz (bsz (bsz (bsz BS TB) lm0) NB) lm1) ZB) lm2 (by decide)
          have m7 : Sm (S ++ T ++ ⟨#[102, 111, 114, 32]⟩ ++ ⟨(k j).h.nm.toArray⟩ ++ ⟨#[32, 61, 32]⟩ ++ ZL ++ ⟨#[32, 46, 46, 32]⟩ ++ ZH) := sm_app (bsz (bsz (bsz (bsz (bsz (bsz BS TB) lm0) NB) lm1) ZB) lm2) YB (by decide)
          have m8 : Sm (S ++ T ++ ⟨#[102, 111, 114, 32]⟩ ++ ⟨(k j).h.nm.toArray⟩ ++ ⟨#[32, 61, 32]⟩ ++ ZL ++ ⟨#[32, 46, 46, 32]⟩ ++ ZH ++ ⟨#[32, 123, 10]⟩) := sm_app (bsz (bsz (bsz (bsz (bsz (bsz (bsz BS TB) lm0) NB) lm1) ZB) lm2) YB) lm3 (by decide)
          have m9 : Sm (S ++ T ++ ⟨#[102, 111, 114, 32]⟩ ++ ⟨(k j).h.nm.toArray⟩ ++ ⟨#[32, 61, 32]⟩ ++ ZL ++ ⟨#[32, 46, 46, 32]⟩ ++ ZH ++ ⟨#[32, 123, 10]⟩ ++ TT) := sm_app (bsz (bsz (bsz (bsz (bsz (bsz (bsz (bsz BS TB) lm0) NB) lm1) ZB) lm2) YB) lm3) UB (by decide)
          have m10 : Sm (S ++ T ++ ⟨#[102, 111, 114, 32]⟩ ++ ⟨(k j).h.nm.toArray⟩ ++ ⟨#[32, 61, 32]⟩ ++ ZL ++ ⟨#[32, 46, 46, 32]⟩ ++ ZH ++ ⟨#[32, 123, 10]⟩ ++ TT ++ T) := sm_app (bsz (bsz (bsz (bsz (bsz (bsz (bsz (bsz (bsz BS TB) lm0) NB) lm1) ZB) lm2) YB) lm3) UB) TB (by decide)
          have sT9 : Sm (T ++ (⟨#[9]⟩ : ByteArray)) := sm_app TB (show (⟨#[9]⟩ : ByteArray).size ≤ 1 from Nat.le_refl _) (by decide)
          have s9 : Sm (⟨#[9]⟩ : ByteArray) := by unfold Sm; decide
          as_aux_lemma =>
            go_upto_region 18 with fail
            clear y0
            go_region_held3 (fun w' => (w'.cell? ⟨w.heap.size, 0, none⟩ = some (.slice P.fa P.l.length P.fc) ∧ w'.cell? ⟨w.heap.size, 1, none⟩ = some (.slice P.ta P.l.length P.tc)) ∧ w'.cell? ⟨xb, 2, none⟩ = some (.string ⟨(k j).h.nm.toArray⟩) ∧ w'.cell? ⟨xb, 11, none⟩ = some (.int .i32 (k j).h.lo) ∧ w'.cell? ⟨xb, 12, none⟩ = some (.int .i32 (k j).h.hi) ∧ w'.cell? ⟨xb, 13, none⟩ = some (.slice (k j).h.ts.ao (k j).h.ts.n (k j).h.ts.c))
              (first | (refine KG.out _ ?_; (repeat (first | exact Below.refl _ _ | exact X3 | exact X2 | exact X1 | refine bel_drew ?_)); done))
              (first
                | (go_at_call 32; first
                    | (have _ := X1; refine (DH.out _).mono ?_; rintro x w22 ⟨rfl, b22⟩; have X2 : Below V.heap.size V w22 := (by refine bel_trans ?_ b22; repeat (first | exact Below.refl _ _ | exact X1 | refine bel_drew ?_)))
                    | (refine (DL.out _).mono ?_; rintro x w21 ⟨rfl, b21⟩; have X1 : Below V.heap.size V w21 := (by refine bel_trans ?_ b21; repeat (first | exact Below.refl _ _ | refine bel_drew ?_))))
                | (go_at_call 36; have _ := X2; refine (TJ.out _ ?_).mono ?_; (· repeat (first | exact Below.refl _ _ | exact X2 | exact X1 | refine bel_drew ?_)); rintro x w23 ⟨rfl, b23⟩; have X3 : Below V.heap.size V w23 := (by refine bel_trans ?_ b23; repeat (first | exact Below.refl _ _ | exact X2 | exact X1 | refine bel_drew ?_))))
            all_goals
              clear KG TJ DL DH
              go_wp2_with fail
              go_roundg (n - (j + 1))
              case measure => have := HJ.out; have := HLT.out; omega
              case rel => exact ⟨j + 1, by show Value.string _ = Value.string ⟨(cat _ j ++ _).toArray⟩; rw [← FR.out], by go_num, ⟨rfl, HLT.out⟩, bel_trans BW.out X3, kept_obj X3 GP.out⟩
        have FR : Hid ((⟨(cat (fun i => (k i).txt prT d) j).toArray⟩ : ByteArray) = ⟨(cat (fun i => (k i).txt prT d) j ++ (k j).txt prT d).toArray⟩) := ln0 (k j) d _ q1 q2 q3
        have b3 : ((k j).h.kd == 3) = false := by simp [q3]
        clear q1 q2 q3 XJ XB EJ TJ LJ DL DH EB TB UB VB ZB YB NB y2 y3 ovl ovh
        have XR : Below V.heap.size V V := Below.refl _ _
        generalize (⟨(cat (fun i => (k i).txt prT d) j).toArray⟩ : ByteArray) = S at *
        as_aux_lemma =>
          go_wp2_with fail
          go_roundg (n - (j + 1))
          case measure => have := HJ.out; have := HLT.out; omega
          case rel => exact ⟨j + 1, by show Value.string _ = Value.string ⟨(cat _ j ++ _).toArray⟩; rw [← FR.out], by go_num, ⟨rfl, HLT.out⟩, bel_trans BW.out XR, kept_obj XR GP.out⟩
    · obtain rfl : j = n := by have := HJ.out; omega
      have z0 : ¬ (j : Int) < (j : Int) := by omega
      clear hlt
      go_wp2_with fail
      go_ret
      exact ⟨rfl, BEL.out⟩
theorem gStmts_e (B : Nat) (P : Prn) (s : St) : GB B P s.h.ts s.t ∧ GB B P s.h.es s.l := by
  induction s using St.ind with
  | H s it il => exact ⟨gStmts_of B P _ _ fun i hi => it i hi, gStmts_of B P _ _ fun i hi => il i hi⟩
theorem gStmts_any (B : Nat) (P : Prn) (s : Sl) (k : Nat → St) : GB B P s k := gStmts_of B P s k fun i _ => gStmts_e B P (k i)
end Go.Proofs.YtgjgcehoakacoaaGreatDoor
namespace Go.Proofs.YtgjgcehoakacoaaGreatDoor
open Go.RowKit
set_option maxRecDepth 100000

def inpT (b : Bool) : List UInt8 := if b then [105, 110, 112, 117, 116, 32] else [118, 97, 114, 32]
def lenT (n : Int) : List UInt8 := if 0 < n then [91] ++ Lib.itoa n ++ [93] else []
def rngT (b : Bool) (x y : List UInt8) : List UInt8 := if b then [32, 105, 110, 32, 91] ++ x ++ [44, 32] ++ y ++ [93] else []
theorem lnD (d : De) (L : List UInt8) : (⟨L.toArray⟩ : ByteArray) ++ ⟨(inpT d.inp).toArray⟩ ++ ⟨d.nm.toArray⟩ ++ ⟨#[58, 32]⟩ ++ ⟨(typT d.ty).toArray⟩ ++ ⟨(lenT d.len).toArray⟩ ++ ⟨(rngT d.rg (d.lo.txt prT) (d.hi.txt prT)).toArray⟩ ++ ⟨#[59, 10]⟩ = ⟨(L ++ d.txt prT).toArray⟩ := by
  rw [show d.txt prT = inpT d.inp ++ d.nm ++ [58, 32] ++ typT d.ty ++ lenT d.len ++ rngT d.rg (d.lo.txt prT) (d.hi.txt prT) ++ [59, 10] from rfl]
  apply zbytes
  simp [ByteArray.data_append]
theorem bnil (x : ByteArray) : x ++ ⟨#[]⟩ = x := by
  apply ByteArray.ext
  simp [ByteArray.data_append]
theorem inp_len (b : Bool) : (inpT b).length ≤ 6 := by cases b <;> decide
theorem typ_len (t : Int) : (typT t).length ≤ 5 := by
  unfold typT
  repeat' split
  all_goals decide
theorem len_len {n : Int} (h0 : -9223372036854775808 ≤ n) (h1 : n ≤ 9223372036854775807) : (lenT n).length ≤ 23 := by
  have := itoa_len h0 h1
  unfold lenT
  split <;> simp only [List.length_append, List.length_cons, List.length_nil] <;> omega
theorem rng_len (b : Bool) (x y : List UInt8) (hx : x.length ≤ 80000) (hy : y.length ≤ 80000) : (rngT b x y).length ≤ 160008 := by
  unfold rngT
  split <;> simp only [List.length_append, List.length_cons, List.length_nil] <;> omega
def tkT (n : Int) : List UInt8 := [116, 105, 99, 107, 115, 32] ++ Lib.itoa n ++ [59, 10]
theorem lnK (n : Int) : (⟨#[116, 105, 99, 107, 115, 32]⟩ : ByteArray) ++ ⟨(Lib.itoa n).toArray⟩ ++ ⟨#[59, 10]⟩ = ⟨(tkT n).toArray⟩ := by
  apply zbytes
  simp [tkT, ByteArray.data_append]
theorem lnP (p : Pr) : (⟨(tkT p.ticks ++ cat (fun i => (p.d i).txt prT) p.ds.n).toArray⟩ : ByteArray) ++ ⟨#[105, 110, 105, 116, 32, 123, 10]⟩ ++ ⟨(cat (fun i => (p.i i).txt prT 1) p.is.n).toArray⟩ ++ ⟨#[125, 10, 115, 116, 101, 112, 32, 123, 10]⟩ ++ ⟨(cat (fun i => (p.s i).txt prT 1) p.ss.n).toArray⟩ ++ ⟨#[125, 10]⟩ = ⟨(p.txt prT).toArray⟩ := by
  rw [show p.txt prT = tkT p.ticks ++ cat (fun i => (p.d i).txt prT) p.ds.n ++ [105, 110, 105, 116, 32, 123, 10] ++ cat (fun i => (p.i i).txt prT 1) p.is.n ++ [125, 10, 115, 116, 101, 112, 32, 123, 10] ++ cat (fun i => (p.s i).txt prT 1) p.ss.n ++ [125, 10] from rfl]
  apply zbytes
  simp [ByteArray.data_append]
set_option maxHeartbeats 6400000 in
theorem gPrint_any (B : Nat) (P : Prn) (p : Pr) (w : World) (hp : p.In B w) (hP : P.In B w) (hB : B ≤ w.heap.size) (hf : ∀ x ∈ p.fls, x ∈ P.l) (hw : p.wt ≤ 1500) :
    Calls Tryz.prog 13 #[P.v, p.v] w fun r w' => r = .returned (.string ⟨(p.txt prT).toArray⟩) ∧ Below w.heap.size w w' := by
  have FP := Lib.hid (lnP p)
  obtain ⟨tk, ⟨ao, n, c⟩, k, is, ki, ss, ks⟩ := p
  dsimp only at FP
  generalize hR : (⟨(Pr.txt prT ⟨tk, ⟨ao, n, c⟩, k, is, ki, ss, ks⟩).toArray⟩ : ByteArray) = R at *
  clear hR
  have HI : Hid (DsIn B w ⟨ao, n, c⟩ k) := hp.2.1
  have I1 : Hid (SsIn B w is ki) := hp.2.2.1
  have I2 : Hid (SsIn B w ss ks) := hp.2.2.2
  have HP := Lib.hid hP
  have HB := Lib.hid hB
  have HW : Hid (sm (fun i => (k i).wt) n + sm (fun i => (ki i).wt) is.n + sm (fun i => (ks i).wt) ss.n ≤ 1500) := hw
  have HF : Hid (∀ x ∈ cat (fun i => (k i).fls) n ++ cat (fun i => (ki i).fls) is.n ++ cat (fun i => (ks i).fls) ss.n, x ∈ P.l) := hf
  have hmx : n ≤ maxLen := Nat.le_trans HI.out.1.1 HI.out.1.2.1
  unfold maxLen at hmx
  have HM := Lib.hid hmx
  have T0 : -9223372036854775808 ≤ tk ∧ tk ≤ 9223372036854775807 := hp.1
  have LB : Hid (∀ j, j ≤ n → (tkT tk ++ cat (fun i => (k i).txt prT) j).length ≤ 11000000) := by
    show ∀ j, j ≤ n → _
    intro j hj
    have h1 := cat_bound (f := fun i => (k i).txt prT) (g := fun i => (k i).wt) (n := j) (fun i hi => De.txt_len B w _ (HI.out.2.2 i (by show i < n; omega)))
    have h2 := sm_le (f := fun i => (k i).wt) hj
    have h3 := itoa_len T0.1 T0.2
    have h4 := HW.out
    simp only [tkT, List.length_append, List.length_cons, List.length_nil]
    omega
  have DT := Lib.hid fun w' => gDigits_any tk T0.1 T0.2 w'
  have FK := Lib.hid (lnK tk)
  have ZB : (⟨(Lib.itoa tk).toArray⟩ : ByteArray).size ≤ 21 := bz (itoa_len T0.1 T0.2)
  have U1 : (⟨(cat (fun i => (ki i).txt prT 1) is.n).toArray⟩ : ByteArray).size ≤ 14000000 := bz (blk_len B w _ _ I1.out 1 (by have := HW.out; omega) _ (Nat.le_refl _))
  have U2 : (⟨(cat (fun i => (ks i).txt prT 1) ss.n).toArray⟩ : ByteArray).size ≤ 14000000 := bz (blk_len B w _ _ I2.out 1 (by have := HW.out; omega) _ (Nat.le_refl _))
  obtain ⟨g0, g1, bb, hz⟩ := two_boxes w (rO P) (pO ⟨tk, ⟨ao, n, c⟩, k, is, ki, ss, ks⟩)
  have BX := Lib.hid bb
  have GX := Lib.hid (And.intro g0 g1)
  have hz1 : (bx w (rO P)).heap.size = w.heap.size + 1 := bx_size _ _
  clear hp hP hB hf hw hmx T0 bb g0 g1
  show Calls Tryz.prog 13 #[.agg #[.slice P.fa P.l.length P.fc, .slice P.ta P.l.length P.tc], .agg #[.int .i64 tk, .slice ao n c, .slice is.ao is.n is.c, .slice ss.ao ss.n ss.c]] w _
  go_enter Tryz.func13, Tryz.ntmps13
  have SADD := sadd_h
  go_upto_region 1 with fail
  rw [bx_r w P, bx_p _ ⟨tk, ⟨ao, n, c⟩, k, is, ki, ss, ks⟩]
  generalize bx (bx w (rO P)) (pO ⟨tk, ⟨ao, n, c⟩, k, is, ki, ss, ks⟩) = W at *
  obtain ⟨p0, -, -, -⟩ := p_cells GX.out.2
  dsimp only at p0
  clear hz hz1
  generalize (⟨(Lib.itoa tk).toArray⟩ : ByteArray) = ZT at *
  have sz : Sm ZT := sm_of ZB (by decide)
  have l0 : (⟨#[116, 105, 99, 107, 115, 32]⟩ : ByteArray).size ≤ 6 := Nat.le_refl _
  have l0S : Sm (⟨#[116, 105, 99, 107, 115, 32]⟩ : ByteArray) := sm_of l0 (by decide)
  have l1S : Sm (⟨#[59, 10]⟩ : ByteArray) := by unfold Sm; decide
  have l2S : Sm ((⟨#[116, 105, 99, 107, 115, 32]⟩ : ByteArray) ++ ZT) := sm_app l0 ZB (by decide)
  go_wp2_with fail
  refine (DT.out _).mono ?_
  rintro r w1 ⟨rfl, hb1⟩
  have B1 := Lib.hid (bel_trans BX.out hb1)
  have G1 := Lib.hid (And.intro (kept_obj hb1 GX.out.1) (kept_obj hb1 GX.out.2))
  clear hb1 p0 BX GX DT
  go_wp2_with fail
  go_loopg [5, 6] n (fun gk s i wr => ∃ j : Nat, s = .string ⟨(tkT tk ++ cat (fun i => (k i).txt prT) j).toArray⟩ ∧ i = .int .i64 (j : Int) ∧ Hid (gk = n - j ∧ j ≤ n) ∧ Hid (Below w.heap.size w wr) ∧ Hid (wr.heap[w.heap.size]? = some (rO P) ∧ wr.heap[w.heap.size + 1]? = some (pO ⟨tk, ⟨ao, n, c⟩, k, is, ki, ss, ks⟩)))
  case atStart => exact ⟨0, by rw [FK.out]; simp [cat], rfl, ⟨rfl, Nat.zero_le _⟩, B1.out, G1.out⟩
  case round =>
    clear B1 G1 ZB sz l0 l0S l1S l2S FK
    obtain ⟨j, rfl, rfl, HJ, BEL, GX⟩ := hrel
    obtain ⟨-, p1, -, -⟩ := p_cells GX.out.2
    dsimp only at p1
    by_cases hlt : j < n
    · clear U1 U2
      have z0 : (j : Int) < (n : Int) := by omega
      have ovi : IntKind.i64.wrap ((j : Int) + 1) = ((j + 1 : Nat) : Int) := by have := HM.out; rw [IntKind.wrap_i64]; omega
      have HLT := Lib.hid hlt
      obtain ⟨a, b, o, rfl, hA, hb, X, I⟩ := DsIn.at (HI.out.below BEL.out HB.out) (i := j) hlt
      have RC := Lib.hid (d20_range X)
      have BE0 := bx_bel (Below.refl wr.heap.size wr) (Nat.le_refl _) (dO (k j) (k j).lo.h (k j).hi.h)
      have BW := Lib.hid (bel_trans BEL.out BE0)
      have G0 := Lib.hid (bx_new wr (dO (k j) (k j).lo.h (k j).hi.h))
      have GP := Lib.hid (And.intro (kept_obj BE0 GX.out.1) (kept_obj BE0 GX.out.2))
      have BV : Hid (B ≤ (bx wr (dO (k j) (k j).lo.h (k j).hi.h)).heap.size) := Nat.le_trans HB.out (Nat.le_trans BEL.out.size BE0.size)
      have IV := Lib.hid (I.below BE0 (Nat.le_trans HB.out BEL.out.size))
      have PV := Lib.hid (HP.out.below BW.out HB.out)
      have WT : Hid ((k j).wt ≤ 1500) := by show _ ≤ _; have := HW.out; have := sm_one (f := fun i => (k i).wt) hlt; omega
      have FT : Hid (∀ x ∈ (k j).fls, x ∈ P.l) := fun x hx => HF.out x (by have : x ∈ cat (fun i => (k i).fls) n := mem_cat.2 ⟨j, hlt, hx⟩; simp [this])
      have BS : (⟨(tkT tk ++ cat (fun i => (k i).txt prT) j).toArray⟩ : ByteArray).size ≤ 11000000 := bz (LB.out j (Nat.le_of_lt hlt))
      have O1 := Lib.hid (dcvs_one (k j) (k j).lo.h (k j).hi.h)
      obtain ⟨V1, hV1⟩ : ∃ V, dcvs (k j) (k j).lo.h (k j).hi.h = V := ⟨_, rfl⟩
      have L1 := Lib.hid (show (Tryz.prog.info? 54).map (·.size) = some V1.length ∧ V1.length = 20 by rw [← hV1]; exact ⟨by kernel_rfl, rfl⟩)
      have E1 : (dO (k j) (k j).lo.h (k j).hi.h) = .cells V1.toArray 54 (0, 0) := by rw [dO_eq, hV1]
      have F1 := Lib.hid E1
      rw [hV1] at RC O1
      clear X I hb hlt BE0 hV1 E1
      as_aux_lemma =>
        go_upto_region 6 with (first
          | refine wpList_load_mid rfl 54 _ rfl b o rfl V1 _ RC.out Tryz.underlying54 rfl L1.out.1 ?_
          | refine store_bx rfl 54 _ _ rfl wr _ V1.toArray rfl rfl (by rw [List.size_toArray]; exact L1.out.1) (by have h : V1.toArray.size = 20 := (by rw [List.size_toArray]; exact L1.out.2); rw [h]; rfl) O1.out ?_)
        rw [← F1.out]
        clear RC O1 L1 F1 p1 GX
        generalize bx wr (dO (k j) (k j).lo.h (k j).hi.h) = V at *
        generalize wr.heap.size = xb at *
        have HOK := IV.out.1
        have WE : (k j).wt = 1 + (k j).nm.length + (k j).lo.wt + (k j).hi.wt := rfl
        have FE : (k j).fls = (k j).lo.fls ++ (k j).hi.fls := rfl
        have NB : (⟨(k j).nm.toArray⟩ : ByteArray).size ≤ 2000 := bz (by have := WT.out; omega)
        have eb : ((k j).lo.txt prT).length ≤ 80000 := by have := Ex.txt_len B V _ IV.out.2.1; have := WT.out; omega
        have fb : ((k j).hi.txt prT).length ≤ 80000 := by have := Ex.txt_len B V _ IV.out.2.2; have := WT.out; omega
        have EB := bz eb
        have FB := bz fb
        have A1B := bz (inp_len (k j).inp)
        have A2B := bz (typ_len (k j).ty)
        have A3B := bz (len_len HOK.len0 HOK.len1)
        have A4B := bz (rng_len (k j).rg _ _ eb fb)
        have ZB : (⟨(Lib.itoa (k j).len).toArray⟩ : ByteArray).size ≤ 21 := bz (itoa_len HOK.len0 HOK.len1)
        have DL := Lib.hid fun w' => gDigits_any (k j).len HOK.len0 HOK.len1 w'
        have EJ := Lib.hid fun w' (hb : Below V.heap.size V w') => gText_any B P (k j).lo w' (IV.out.2.1.below hb BV.out) (PV.out.below hb BV.out) (Nat.le_trans BV.out hb.size) (fun x hx => FT.out x (by rw [FE]; simp [hx])) (by have := WT.out; omega)
        have FJ := Lib.hid fun w' (hb : Below V.heap.size V w') => gText_any B P (k j).hi w' (IV.out.2.2.below hb BV.out) (PV.out.below hb BV.out) (Nat.le_trans BV.out hb.size) (fun x hx => FT.out x (by rw [FE]; simp [hx])) (by have := WT.out; omega)
        have FR := Lib.hid (lnD (k j) (tkT tk ++ cat (fun i => (k i).txt prT) j))
        have Q1 : Hid ((⟨(inpT (k j).inp).toArray⟩ : ByteArray) = if (k j).inp then ⟨#[105, 110, 112, 117, 116, 32]⟩ else ⟨#[118, 97, 114, 32]⟩) := by show _ = _; cases (k j).inp <;> rfl
        have Q2 : Hid ((⟨(typT (k j).ty).toArray⟩ : ByteArray) = if (k j).ty = 1 then ⟨#[98, 111, 111, 108]⟩ else if (k j).ty = 2 then ⟨#[105, 110, 116]⟩ else if (k j).ty = 3 then ⟨#[102, 108, 111, 97, 116]⟩ else ⟨#[]⟩) := by show _ = _; unfold typT; (repeat' split) <;> rfl
        have Q3 : Hid ((⟨(lenT (k j).len).toArray⟩ : ByteArray) = if 0 < (k j).len then (⟨#[91]⟩ : ByteArray) ++ ⟨(Lib.itoa (k j).len).toArray⟩ ++ ⟨#[93]⟩ else ⟨#[]⟩) := by show _ = _; unfold lenT; split; (symm; apply zbytes; simp [ByteArray.data_append]); rfl
        have Q4 : Hid ((⟨(rngT (k j).rg ((k j).lo.txt prT) ((k j).hi.txt prT)).toArray⟩ : ByteArray) = if (k j).rg then (⟨#[32, 105, 110, 32, 91]⟩ : ByteArray) ++ ⟨((k j).lo.txt prT).toArray⟩ ++ ⟨#[44, 32]⟩ ++ ⟨((k j).hi.txt prT).toArray⟩ ++ ⟨#[93]⟩ else ⟨#[]⟩) := by show _ = _; unfold rngT; split; (symm; apply zbytes; simp [ByteArray.data_append]); rfl
        generalize (⟨(inpT (k j).inp).toArray⟩ : ByteArray) = Z1 at *
        generalize (⟨(typT (k j).ty).toArray⟩ : ByteArray) = Z2 at *
        generalize (⟨(lenT (k j).len).toArray⟩ : ByteArray) = Z3 at *
        generalize (⟨(rngT (k j).rg ((k j).lo.txt prT) ((k j).hi.txt prT)).toArray⟩ : ByteArray) = Z4 at *
        generalize (⟨(tkT tk ++ cat (fun i => (k i).txt prT) j).toArray⟩ : ByteArray) = S at *
        generalize (⟨((k j).lo.txt prT).toArray⟩ : ByteArray) = LO at *
        generalize (⟨((k j).hi.txt prT).toArray⟩ : ByteArray) = HI' at *
        generalize (⟨(Lib.itoa (k j).len).toArray⟩ : ByteArray) = ZL at *
        clear eb fb WE FE HOK
        have Y := d_cells G0.out
        have y1 := Y.c1
        clear Y
        go_upto_if 26 with fail
        go_cut [5] (fun t wx => ∃ R1 : ByteArray, t = .string R1 ∧ Hid (R1 = S ++ Z1) ∧ Hid (Below V.heap.size V wx))
        case first =>
          have sS : Sm S := sm_of BS (by decide)
          cases hi : (k j).inp with
          | true =>
            have q : Sm (⟨#[105, 110, 112, 117, 116, 32]⟩ : ByteArray) := by unfold Sm; decide
            rw [hi] at y1 Q1
            have QQ := Lib.hid (Q1.out.trans (if_pos rfl))
            clear hi Q1
            go_wp2_with fail
            go_meet
            exact ⟨_, rfl, by rw [QQ.out]; exact rfl, Below.refl _ _⟩
          | false =>
            have q : Sm (⟨#[118, 97, 114, 32]⟩ : ByteArray) := by unfold Sm; decide
            rw [hi] at y1 Q1
            have QQ := Lib.hid (Q1.out.trans (if_neg (by decide)))
            clear hi Q1
            go_wp2_with fail
            go_meet
            exact ⟨_, rfl, by rw [QQ.out]; exact rfl, Below.refl _ _⟩
        case rest =>
          obtain ⟨R1, rfl, HR1, BV1⟩ := hcut
          have SB1 : R1.size ≤ 11000006 := by rw [HR1.out]; exact bsz BS A1B
          clear y1 Q1
          as_aux_lemma =>
            have s0 : Sm R1 := sm_of SB1 (by decide)
            have s1 : Sm (⟨(k j).nm.toArray⟩ : ByteArray) := sm_of NB (by decide)
            have l0 : (⟨#[58, 32]⟩ : ByteArray).size ≤ 2 := Nat.le_refl _
            have l0S : Sm (⟨#[58, 32]⟩ : ByteArray) := sm_of l0 (by decide)
            have s2 : Sm (R1 ++ ⟨(k j).nm.toArray⟩) := sm_app SB1 NB (by decide)
            have SB2 : (R1 ++ ⟨(k j).nm.toArray⟩ ++ ⟨#[58, 32]⟩).size ≤ 11002008 := bsz (bsz SB1 NB) l0
            have s3 := sm_of SB2 (by decide)
            have Y := d_cells (kept_obj BV1.out G0.out)
            have y2 := Y.c2
            have y3 := Y.c3
            clear Y
            go_upto_block 2 with fail
            go_cut [5] (fun t wx => ∃ R2 : ByteArray, t = .string R2 ∧ Hid (R2 = R1 ++ ⟨(k j).nm.toArray⟩ ++ ⟨#[58, 32]⟩ ++ Z2) ∧ Hid (Below V.heap.size V wx))
            case first =>
              have q1 : Sm (⟨#[98, 111, 111, 108]⟩ : ByteArray) := by unfold Sm; decide
              have q2 : Sm (⟨#[105, 110, 116]⟩ : ByteArray) := by unfold Sm; decide
              have q3 : Sm (⟨#[102, 108, 111, 97, 116]⟩ : ByteArray) := by unfold Sm; decide
              by_cases h1 : (k j).ty = 1
              · have b1 : ((k j).ty == 1) = true := by simp [h1]
                have QQ := Lib.hid (Q2.out.trans (if_pos h1))
                clear h1 Q2
                go_wp2_with fail
                go_meet
                exact ⟨_, rfl, by rw [QQ.out]; exact rfl, BV1.out⟩
              · have b1 : ((k j).ty == 1) = false := by simp [h1]
                by_cases h2 : (k j).ty = 2
                · have b2 : ((k j).ty == 2) = true := by simp [h2]
                  have QQ := Lib.hid ((Q2.out.trans (if_neg h1)).trans (if_pos h2))
                  clear h1 h2 Q2
                  go_wp2_with fail
                  go_meet
                  exact ⟨_, rfl, by rw [QQ.out]; exact rfl, BV1.out⟩
                · have b2 : ((k j).ty == 2) = false := by simp [h2]
                  by_cases h3 : (k j).ty = 3
                  · have b3 : ((k j).ty == 3) = true := by simp [h3]
                    have QQ := Lib.hid (((Q2.out.trans (if_neg h1)).trans (if_neg h2)).trans (if_pos h3))
                    clear h1 h2 h3 Q2
                    go_wp2_with fail
                    go_meet
                    exact ⟨_, rfl, by rw [QQ.out]; exact rfl, BV1.out⟩
                  · have b3 : ((k j).ty == 3) = false := by simp [h3]
                    have QQ := Lib.hid (((Q2.out.trans (if_neg h1)).trans (if_neg h2)).trans (if_neg h3))
                    clear h1 h2 h3 Q2
                    go_wp2_with fail
                    go_meet
                    exact ⟨_, rfl, by rw [QQ.out, bnil]; exact rfl, BV1.out⟩
            case rest =>
              obtain ⟨R2, rfl, HR2, BV2⟩ := hcut
              have SB3 : R2.size ≤ 11002013 := by rw [HR2.out]; exact bsz SB2 A2B
              clear s0 s1 l0 l0S s2 s3 SB2 y2 y3 Q2 BV1
              as_aux_lemma =>
                have s0 : Sm R2 := sm_of SB3 (by decide)
                have Y := d_cells (kept_obj BV2.out G0.out)
                have y4 := Y.c4
                clear Y
                go_upto_if 52 with fail
                go_cut [5] (fun t wx => ∃ R3 : ByteArray, t = .string R3 ∧ Hid (R3 = R2 ++ Z3) ∧ Hid (Below V.heap.size V wx))
                case first =>
                  by_cases h0 : 0 < (k j).len
                  · have QQ := Lib.hid (Q3.out.trans (if_pos h0))
                    have l0 : (⟨#[91]⟩ : ByteArray).size ≤ 1 := Nat.le_refl _
                    have l0S : Sm (⟨#[91]⟩ : ByteArray) := sm_of l0 (by decide)
                    have l1S : Sm (⟨#[93]⟩ : ByteArray) := by unfold Sm; decide
                    have s1 : Sm ZL := sm_of ZB (by decide)
                    have s2 : Sm (R2 ++ ⟨#[91]⟩) := sm_app SB3 l0 (by decide)
                    have s3 : Sm (R2 ++ ⟨#[91]⟩ ++ ZL) := sm_app (bsz SB3 l0) ZB (by decide)
                    clear Q3
                    go_wp2_with fail
                    refine (DL.out _).mono ?_
                    rintro r w2 ⟨rfl, hb2⟩
                    have B2 := Lib.hid (bel_trans BV2.out hb2)
                    clear hb2 y4
                    go_wp2_with fail
                    go_meet
                    exact ⟨_, rfl, by rw [QQ.out, ← ByteArray.append_assoc, ← ByteArray.append_assoc]; exact rfl, B2.out⟩
                  · have QQ := Lib.hid (Q3.out.trans (if_neg h0))
                    clear Q3
                    go_wp2_with fail
                    go_meet
                    exact ⟨_, rfl, by rw [QQ.out, bnil]; exact rfl, BV2.out⟩
                case rest =>
                  obtain ⟨R3, rfl, HR3, BV3⟩ := hcut
                  have SB4 : R3.size ≤ 11002036 := by rw [HR3.out]; exact bsz SB3 A3B
                  clear s0 y4 Q3 BV2
                  as_aux_lemma =>
                    have s0 : Sm R3 := sm_of SB4 (by decide)
                    have Y := d_cells (kept_obj BV3.out G0.out)
                    have y5 := Y.c5
                    clear Y
                    go_upto_if 61 with fail
                    go_cut [5] (fun t wx => ∃ R4 : ByteArray, t = .string R4 ∧ Hid (R4 = R3 ++ Z4) ∧ Hid (Below V.heap.size V wx))
                    case first =>
                      cases hi : (k j).rg with
                      | false =>
                        rw [hi] at y5 Q4
                        have QQ := Lib.hid (Q4.out.trans (if_neg (by decide)))
                        clear hi Q4
                        go_wp2_with fail
                        go_meet
                        exact ⟨_, rfl, by rw [QQ.out, bnil]; exact rfl, BV3.out⟩
                      | true =>
                        rw [hi] at y5 Q4
                        have QQ := Lib.hid (Q4.out.trans (if_pos rfl))
                        have l0 : (⟨#[32, 105, 110, 32, 91]⟩ : ByteArray).size ≤ 5 := Nat.le_refl _
                        have l0S : Sm (⟨#[32, 105, 110, 32, 91]⟩ : ByteArray) := sm_of l0 (by decide)
                        have l1 : (⟨#[44, 32]⟩ : ByteArray).size ≤ 2 := Nat.le_refl _
                        have l1S : Sm (⟨#[44, 32]⟩ : ByteArray) := sm_of l1 (by decide)
                        have l2S : Sm (⟨#[93]⟩ : ByteArray) := by unfold Sm; decide
                        have s1 : Sm LO := sm_of EB (by decide)
                        have s2 : Sm HI' := sm_of FB (by decide)
                        have s3 : Sm (R3 ++ ⟨#[32, 105, 110, 32, 91]⟩) := sm_app SB4 l0 (by decide)
                        have s4 : Sm (R3 ++ ⟨#[32, 105, 110, 32, 91]⟩ ++ LO) := sm_app (bsz SB4 l0) EB (by decide)
                        have s5 : Sm (R3 ++ ⟨#[32, 105, 110, 32, 91]⟩ ++ LO ++ ⟨#[44, 32]⟩) := sm_app (bsz (bsz SB4 l0) EB) l1 (by decide)
                        have s6 : Sm (R3 ++ ⟨#[32, 105, 110, 32, 91]⟩ ++ LO ++ ⟨#[44, 32]⟩ ++ HI') := sm_app (bsz (bsz (bsz SB4 l0) EB) l1) FB (by decide)
                        have KG := Lib.hid fun w' (hb : Below V.heap.size V w') => let Q := d_cells (kept_obj hb G0.out); And.intro (r_cells (kept_obj hb GP.out.1)) (And.intro Q.c6 (And.intro Q.c7 (And.intro Q.c8 (And.intro Q.c9 (And.intro Q.c10 (And.intro Q.c11 (And.intro Q.c12 (And.intro Q.c13 (And.intro Q.c14 (And.intro Q.c15 (And.intro Q.c16 (And.intro Q.c17 (And.intro Q.c18 (Q.c19))))))))))))))
                        clear hi Q4
                        go_upto_region 20 with fail
                        clear y5
                        have X0 := BV3.out
                        go_region_held3 (fun w' => (w'.cell? ⟨w.heap.size, 0, none⟩ = some (.slice P.fa P.l.length P.fc) ∧ w'.cell? ⟨w.heap.size, 1, none⟩ = some (.slice P.ta P.l.length P.tc)) ∧ w'.cell? ⟨xb, 6, none⟩ = some (.int .u8 (k j).lo.h.op) ∧ w'.cell? ⟨xb, 7, none⟩ = some (.int .i64 (k j).lo.h.ps) ∧ w'.cell? ⟨xb, 8, none⟩ = some (.bool (k j).lo.h.bo) ∧ w'.cell? ⟨xb, 9, none⟩ = some (.int .i32 (k j).lo.h.it) ∧ w'.cell? ⟨xb, 10, none⟩ = some (.int .u64 (k j).lo.h.fl) ∧ w'.cell? ⟨xb, 11, none⟩ = some (.string ⟨(k j).lo.h.nm.toArray⟩) ∧ w'.cell? ⟨xb, 12, none⟩ = some (.slice (k j).lo.h.s.ao (k j).lo.h.s.n (k j).lo.h.s.c) ∧ w'.cell? ⟨xb, 13, none⟩ = some (.int .u8 (k j).hi.h.op) ∧ w'.cell? ⟨xb, 14, none⟩ = some (.int .i64 (k j).hi.h.ps) ∧ w'.cell? ⟨xb, 15, none⟩ = some (.bool (k j).hi.h.bo) ∧ w'.cell? ⟨xb, 16, none⟩ = some (.int .i32 (k j).hi.h.it) ∧ w'.cell? ⟨xb, 17, none⟩ = some (.int .u64 (k j).hi.h.fl) ∧ w'.cell? ⟨xb, 18, none⟩ = some (.string ⟨(k j).hi.h.nm.toArray⟩) ∧ w'.cell? ⟨xb, 19, none⟩ = some (.slice (k j).hi.h.s.ao (k j).hi.h.s.n (k j).hi.h.s.c))
                          (first | (refine KG.out _ ?_; (repeat (first | exact X2 | exact X1 | exact X0 | refine bel_drew ?_)); done))
                          (first
                            | (go_at_call 11; first
                                | (have _ := X1; refine (FJ.out _ ?_).mono ?_; (· repeat (first | exact X1 | refine bel_drew ?_)); rintro x w22 ⟨rfl, b22⟩; have X2 : Below V.heap.size V w22 := (by refine bel_trans ?_ b22; repeat (first | exact X1 | refine bel_drew ?_)))
                                | (refine (EJ.out _ ?_).mono ?_; (· repeat (first | exact X0 | refine bel_drew ?_)); rintro x w21 ⟨rfl, b21⟩; have X1 : Below V.heap.size V w21 := (by refine bel_trans ?_ b21; repeat (first | exact X0 | refine bel_drew ?_)))))
                        all_goals
                          go_wp2_with fail
                          go_meet
                          exact ⟨_, rfl, by rw [QQ.out, ← ByteArray.append_assoc, ← ByteArray.append_assoc, ← ByteArray.append_assoc, ← ByteArray.append_assoc]; exact rfl, X2⟩
                    case rest =>
                      obtain ⟨R4, rfl, HR4, BV4⟩ := hcut
                      have SB5 : R4.size ≤ 11162044 := by rw [HR4.out]; exact bsz SB4 A4B
                      have s1 : Sm R4 := sm_of SB5 (by decide)
                      have l0S : Sm (⟨#[59, 10]⟩ : ByteArray) := by unfold Sm; decide
                      have FF : Hid (R4 ++ ⟨#[59, 10]⟩ = ⟨(tkT tk ++ cat (fun i => (k i).txt prT) j ++ (k j).txt prT).toArray⟩) := by
                        show _ = _
                        rw [HR4.out, HR3.out, HR2.out, HR1.out]
                        exact FR.out
                      clear s0 y5 Q4 BV3
                      go_wp2_with fail
                      go_roundg (n - (j + 1))
                      case measure => have := HJ.out; have := HLT.out; omega
                      case rel => exact ⟨j + 1, by show Value.string _ = Value.string ⟨(tkT tk ++ (cat _ j ++ _)).toArray⟩; rw [← List.append_assoc, ← FF.out], by go_num, ⟨rfl, HLT.out⟩, bel_trans BW.out BV4.out, ⟨kept_obj BV4.out GP.out.1, kept_obj BV4.out GP.out.2⟩⟩
    · obtain rfl : j = n := by have := HJ.out; omega
      have z0 : ¬ (j : Int) < (j : Int) := by omega
      have BS : (⟨(tkT tk ++ cat (fun i => (k i).txt prT) j).toArray⟩ : ByteArray).size ≤ 11000000 := bz (LB.out j (Nat.le_refl _))
      have PV := Lib.hid (HP.out.below BEL.out HB.out)
      have BV : Hid (B ≤ wr.heap.size) := Nat.le_trans HB.out BEL.out.size
      have C1 := Lib.hid fun w' (hb : Below wr.heap.size wr w') => gStmts_any B P is ki 1 w' ((I1.out.below BEL.out HB.out).below hb BV.out) (PV.out.below hb BV.out) (Nat.le_trans BV.out hb.size) (fun x hx => HF.out x (by simp [hx])) (by have := HW.out; omega)
      have C2 := Lib.hid fun w' (hb : Below wr.heap.size wr w') => gStmts_any B P ss ks 1 w' ((I2.out.below BEL.out HB.out).below hb BV.out) (PV.out.below hb BV.out) (Nat.le_trans BV.out hb.size) (fun x hx => HF.out x (by simp [hx])) (by have := HW.out; omega)
      have KG := Lib.hid fun w' (hb : Below wr.heap.size wr w') => And.intro (r_cells (kept_obj hb GX.out.1)) (p_cells (kept_obj hb GX.out.2)).2.2
      dsimp only at KG
      generalize (⟨(tkT tk ++ cat (fun i => (k i).txt prT) j).toArray⟩ : ByteArray) = S at *
      generalize (⟨(cat (fun i => (ki i).txt prT 1) is.n).toArray⟩ : ByteArray) = T1 at *
      generalize (⟨(cat (fun i => (ks i).txt prT 1) ss.n).toArray⟩ : ByteArray) = T2 at *
      have s0 : Sm S := sm_of BS (by decide)
      have s1 : Sm T1 := sm_of U1 (by decide)
      have s2 : Sm T2 := sm_of U2 (by decide)
      have l0 : (⟨#[105, 110, 105, 116, 32, 123, 10]⟩ : ByteArray).size ≤ 7 := Nat.le_refl _
      have l0S : Sm (⟨#[105, 110, 105, 116, 32, 123, 10]⟩ : ByteArray) := sm_of l0 (by decide)
      have l1 : (⟨#[125, 10, 115, 116, 101, 112, 32, 123, 10]⟩ : ByteArray).size ≤ 9 := Nat.le_refl _
      have l1S : Sm (⟨#[125, 10, 115, 116, 101, 112, 32, 123, 10]⟩ : ByteArray) := sm_of l1 (by decide)
      have l2S : Sm (⟨#[125, 10]⟩ : ByteArray) := by unfold Sm; decide
      have s3 : Sm (S ++ ⟨#[105, 110, 105, 116, 32, 123, 10]⟩) := sm_app BS l0 (by decide)
      have s4 : Sm (S ++ ⟨#[105, 110, 105, 116, 32, 123, 10]⟩ ++ T1) := sm_app (bsz BS l0) U1 (by decide)
      have s5 : Sm (S ++ ⟨#[105, 110, 105, 116, 32, 123, 10]⟩ ++ T1 ++ ⟨#[125, 10, 115, 116, 101, 112, 32, 123, 10]⟩) := sm_app (bsz (bsz BS l0) U1) l1 (by decide)
      have s6 : Sm (S ++ ⟨#[105, 110, 105, 116, 32, 123, 10]⟩ ++ T1 ++ ⟨#[125, 10, 115, 116, 101, 112, 32, 123, 10]⟩ ++ T2) := sm_app (bsz (bsz (bsz BS l0) U1) l1) U2 (by decide)
      clear hlt
      as_aux_lemma =>
        go_upto_region 22 with fail
        clear p1
        go_region_held3 (fun w' => (w'.cell? ⟨w.heap.size, 0, none⟩ = some (.slice P.fa P.l.length P.fc) ∧ w'.cell? ⟨w.heap.size, 1, none⟩ = some (.slice P.ta P.l.length P.tc)) ∧ w'.cell? ⟨w.heap.size + 1, 2, none⟩ = some (.slice is.ao is.n is.c) ∧ w'.cell? ⟨w.heap.size + 1, 3, none⟩ = some (.slice ss.ao ss.n ss.c))
          (first | (refine KG.out _ ?_; (repeat (first | exact Below.refl _ _ | exact X2 | exact X1 | refine bel_drew ?_)); done))
          (first
            | (go_at_call 36; first
                | (have _ := X1; refine (C2.out _ ?_).mono ?_; (· repeat (first | exact X1 | refine bel_drew ?_)); rintro x w22 ⟨rfl, b22⟩; have X2 : Below wr.heap.size wr w22 := (by refine bel_trans ?_ b22; repeat (first | exact X1 | refine bel_drew ?_)))
                | (refine (C1.out _ ?_).mono ?_; (· repeat (first | exact Below.refl _ _ | refine bel_drew ?_)); rintro x w21 ⟨rfl, b21⟩; have X1 : Below wr.heap.size wr w21 := (by refine bel_trans ?_ b21; repeat (first | exact Below.refl _ _ | refine bel_drew ?_)))))
        all_goals
          go_wp2_with fail
          go_ret
          exact ⟨by rw [← FP.out]; rfl, bel_trans BEL.out X2⟩
end Go.Proofs.YtgjgcehoakacoaaGreatDoor
namespace Go.Proofs.YtgjgcehoakacoaaGreatDoor
open Go.RowKit
set_option maxRecDepth 100000

theorem step_append_two {P : Program} (w : World) {ops : Array Oper} {o : Oper} {a : Act} {K : Act → World → Prop} {Q : Exit → Act → World → Prop} {E : Prop} (hgd : o.guard = none) (s x : Operand) (t : TypeId)
    (ho : o.op = .call { callee := .builtin .append, args := #[s, x], argTypes := #[t, t] })
    (base base2 : Nat) (e : TypeId) (i : TypeInfo) (z : Value) (bytes : Nat) (ht : P.underlying t = some (.slice e)) (hi : P.info? e = some i) (hz : i.zero = some z)
    (hsize : i.size = 1) (hby : i.bytes = bytes) (hzs : z.cells.size = 1) (v : Value) (n : Nat) (xs : List Value) (hs : a.eval s = v) (hown : w.ownsRow base e 1 v n xs)
    (v2 : Value) (m : Nat) (ys : List Value) (hx : a.eval x = v2) (hown2 : w.ownsRow base2 e 1 v2 m ys) (h1 : ∀ u ∈ ys, u.oneCell' = true) (h63 : n + m ≤ maxLen) (hbytes : (n + m) * bytes ≤ 140737488355328) (hbase : base ≤ w.heap.size)
    (h : ∀ v' w', w'.ownsRow base e 1 v' (n + m) (xs ++ ys) → w.grownBy w' v.ownBlock → K (a.put o.dst v') w') : if Region.wanted o (yielded ops a.tmps) = true then Oper.wp P o a w K Q else E := by
  have hw : Region.wanted o (yielded ops a.tmps) = true := by simp [Region.wanted, hgd]
  rw [if_pos hw]
  obtain ⟨v', w', hrun, h2, h3⟩ := run_append_two (P := P) w base base2 t o.type e i z bytes ht hi hz hsize hby hzs v n xs hown v2 m ys hown2 h1 h63 hbytes hbase
  unfold Oper.wp execOp
  simp only [ho, resolve, invoke, builtin, Sem.run_bind, Sem.run_pure, Result.andThen_ok, List.map_toArray, List.map_cons, List.map_nil, hs, hx, hrun]
  exact h v' w' h2 h3
theorem own_cells {w : World} {base n c : Nat} {t : TypeId} {A : Option Addr} {xs : List Value} (h : w.ownsRow base t 1 (.slice A n c) n xs) {i : Nat} {v : Value} (hi : xs[i]? = some v) : ∃ g, A = some ⟨g, 0, none⟩ ∧ base ≤ g ∧ g < w.heap.size ∧ w.cell? ⟨g, i, none⟩ = some v := by
  have hl : i < n := by
    have := (List.getElem?_eq_some_iff.1 hi).1
    have h1 := h.1
    omega
  rcases h.2 with ⟨_, h0⟩ | ⟨g, cap, cur, e, hb, hg, _⟩
  · omega
  · injection e with e1 _ _
    subst e1
    have h2 := h.cells (g := g) rfl i v hi
    have hadd : (⟨g, 0, none⟩ : Addr).add i = ⟨g, i, none⟩ := by unfold Addr.add; split <;> simp_all
    rw [hadd] at h2
    exact ⟨g, rfl, hb, (Array.getElem?_eq_some_iff.1 hg).1, h2⟩
theorem own_set {w : World} {base n : Nat} {t : TypeId} {v : Value} {xs : List Value} (h : w.ownsRow base t 1 v n xs) {b j : Nat} (hb : b < base) (x : Value) : (w.setCell ⟨b, j, none⟩ x).ownsRow base t 1 v n xs :=
  ⟨h.1, h.2.imp id fun ⟨g, cap, cur, e1, e2, e3, e4⟩ => ⟨g, cap, cur, e1, e2, (set_other (by omega)).trans e3, e4⟩⟩
theorem own_cap {w : World} {base n c : Nat} {t : TypeId} {A : Option Addr} {xs : List Value} (h : w.ownsRow base t 1 (.slice A n c) n xs) : n ≤ c := by
  rcases h.2 with ⟨e, _⟩ | ⟨g, cap, cur, e, _, _, hn, _⟩
  · injection e with _ e2 e3
    omega
  · injection e with _ _ e3
    omega

theorem Ex.fls_le (e : Ex) : e.fls.length ≤ e.wt := by
  induction e using Ex.ind with
  | H e ih =>
    rw [Ex.fls_eq, Ex.wt_eq, List.length_append, cat_len]
    have := sm_mono ih
    split <;> simp only [List.length_cons, List.length_nil] <;> omega
theorem St.fls_le (s : St) : s.fls.length ≤ s.wt := by
  induction s using St.ind with
  | H s it il =>
    rw [St.fls_eq, St.wt_eq]
    simp only [List.length_append, cat_len]
    have := sm_mono it
    have := sm_mono il
    have := sm_mono (f := fun i => ((s.x i).fls).length) (g := fun i => (s.x i).wt) (n := s.h.xs.n) (fun i _ => Ex.fls_le _)
    have := Ex.fls_le s.e
    omega
theorem Pr.fls_le (p : Pr) : p.fls.length ≤ p.wt := by
  unfold Pr.fls Pr.wt
  simp only [List.length_append, cat_len]
  have := sm_mono (f := fun i => ((p.d i).fls).length) (g := fun i => (p.d i).wt) (n := p.ds.n) (fun i _ => by unfold De.fls De.wt; rw [List.length_append]; have := Ex.fls_le (p.d i).lo; have := Ex.fls_le (p.d i).hi; omega)
  have := sm_mono (f := fun i => ((p.i i).fls).length) (g := fun i => (p.i i).wt) (n := p.is.n) (fun i _ => St.fls_le _)
  have := sm_mono (f := fun i => ((p.s i).fls).length) (g := fun i => (p.s i).wt) (n := p.ss.n) (fun i _ => St.fls_le _)
  omega
theorem Ex.fls_word {B : Nat} {w : World} (e : Ex) : e.In B w → ∀ x ∈ e.fls, Word x := by
  induction e using Ex.ind with
  | H e ih =>
    intro h x hx
    rw [Ex.fls_eq, List.mem_append] at hx
    rcases hx with hx | hx
    · split at hx
      · obtain rfl := List.mem_singleton.1 hx
        exact h.ok.fl
      · cases hx
    · obtain ⟨i, hi, hx⟩ := mem_cat.1 hx
      exact ih i hi (h.xs.2.2 i hi) x hx
theorem St.fls_word {B : Nat} {w : World} (s : St) : s.In B w → ∀ x ∈ s.fls, Word x := by
  induction s using St.ind with
  | H s it il =>
    intro h x hx
    rw [St.fls_eq] at hx
    simp only [List.mem_append] at hx
    rcases hx with ((hx | hx) | hx) | hx
    · obtain ⟨i, hi, hx⟩ := mem_cat.1 hx
      exact Ex.fls_word _ (h.xs.2.2 i hi) x hx
    · exact Ex.fls_word _ h.ex x hx
    · obtain ⟨i, hi, hx⟩ := mem_cat.1 hx
      exact it i hi (h.ts.2.2 i hi) x hx
    · obtain ⟨i, hi, hx⟩ := mem_cat.1 hx
      exact il i hi (h.es.2.2 i hi) x hx
theorem Pr.fls_word {B : Nat} {w : World} (p : Pr) (h : p.In B w) : ∀ x ∈ p.fls, Word x := by
  intro x hx
  unfold Pr.fls at hx
  simp only [List.mem_append] at hx
  rcases hx with (hx | hx) | hx
  · obtain ⟨i, hi, hx⟩ := mem_cat.1 hx
    unfold De.fls at hx
    rcases List.mem_append.1 hx with hx | hx
    · exact Ex.fls_word _ (h.2.1.2.2 i hi).2.1 x hx
    · exact Ex.fls_word _ (h.2.1.2.2 i hi).2.2 x hx
  · obtain ⟨i, hi, hx⟩ := mem_cat.1 hx
    exact St.fls_word _ (h.2.2.1.2.2 i hi) x hx
  · obtain ⟨i, hi, hx⟩ := mem_cat.1 hx
    exact St.fls_word _ (h.2.2.2.2.2 i hi) x hx
theorem str_info : (Tryz.prog.info? 9).map (fun i => (i.zero, i.size, i.bytes)) = some (some (.string ⟨#[]⟩), 1, 16) := by kernel_rfl
def svs (l : List Int) : List Value := l.map fun x => .string ⟨(prT x).toArray⟩
theorem svs_one (l : List Int) : ∀ u ∈ svs l, u.oneCell' = true := by
  intro u hu
  obtain ⟨b, _, rfl⟩ := List.mem_map.1 hu
  rfl
/-- A Printer's object, its texts under way. -/
def qO (A : Option Addr) (m c : Nat) (TA : Option Addr) (j tc : Nat) : Obj := .cells #[.slice A m c, .slice TA j tc] 32 (0, 0)
theorem q_cells {w : World} {k : Nat} {A : Option Addr} {m c : Nat} {TA : Option Addr} {j tc : Nat} (g : w.heap[k]? = some (qO A m c TA j tc)) : w.cell? ⟨k, 0, none⟩ = some (.slice A m c) ∧ w.cell? ⟨k, 1, none⟩ = some (.slice TA j tc) :=
  ⟨cell_obj g 0, cell_obj g 1⟩
theorem q_set {w : World} {k : Nat} {A : Option Addr} {m c : Nat} {TA TA' : Option Addr} {j tc j' tc' : Nat} (g : w.heap[k]? = some (qO A m c TA j tc)) : (w.setCell ⟨k, 1, none⟩ (.slice TA' j' tc')).heap[k]? = some (qO A m c TA' j' tc') := by
  unfold qO at *
  simp [World.setCell, Array.getElem?_modify, g]
end Go.Proofs.YtgjgcehoakacoaaGreatDoor
