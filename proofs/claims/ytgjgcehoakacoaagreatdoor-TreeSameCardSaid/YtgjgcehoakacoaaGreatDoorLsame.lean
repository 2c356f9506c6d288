/-
  TreeSame, as a walk: whatever two programs are handed in, it answers true. Conditions: the listed tables stand.
-/
import Derived.Test.YtgjgcehoakacoaaGreatDoorLalike
import Derived.Test.YtgjgcehoakacoaaGreatDoorMTy
namespace Go.Proofs.YtgjgcehoakacoaaGreatDoor
open Go.RowKit
set_option maxRecDepth 100000

theorem Ex.cnt_le (e : Ex) : e.cnt ≤ e.wt := by
  induction e using Ex.ind with
  | H e ih =>
    rw [Ex.cnt_eq, Ex.wt_eq]
    have := sm_mono ih
    omega
theorem St.cs_le (s : St) : s.cs ≤ s.wt := by
  induction s using St.ind with
  | H s it il =>
    rw [St.cs_eq, St.wt_eq]
    have := sm_mono it
    have := sm_mono il
    omega
theorem St.ce_le (s : St) : s.ce ≤ s.wt := by
  induction s using St.ind with
  | H s it il =>
    rw [St.ce_eq, St.wt_eq]
    have := sm_mono it
    have := sm_mono il
    have := sm_mono (f := fun i => (s.x i).cnt) (g := fun i => (s.x i).wt) (n := s.h.xs.n) (fun i _ => Ex.cnt_le _)
    have := Ex.cnt_le s.e
    split <;> omega
theorem Pr.c_le (p : Pr) : p.cs ≤ p.wt ∧ p.ce ≤ p.wt := by
  unfold Pr.cs Pr.ce Pr.wt
  have := sm_mono (f := fun i => (p.i i).cs) (g := fun i => (p.i i).wt) (n := p.is.n) (fun i _ => St.cs_le _)
  have := sm_mono (f := fun i => (p.s i).cs) (g := fun i => (p.s i).wt) (n := p.ss.n) (fun i _ => St.cs_le _)
  have := sm_mono (f := fun i => (p.i i).ce) (g := fun i => (p.i i).wt) (n := p.is.n) (fun i _ => St.ce_le _)
  have := sm_mono (f := fun i => (p.s i).ce) (g := fun i => (p.s i).wt) (n := p.ss.n) (fun i _ => St.ce_le _)
  omega
theorem cell_kept {w w' : World} {a : Addr} {v : Value} (hb : Below w.heap.size w w') (h : w.cell? a = some v) : w'.cell? a = some v := (hb.cell (World.block_lt_of_cell? _ _ h)).trans h
set_option maxHeartbeats 6400000 in
theorem lsame_walk (p q : Pr) (w : World) (hp : p.In w.heap.size w) (hq : q.In w.heap.size w) (hE : EnvOk w) (hS : SgOk w) :
    Calls Tryz.prog 4 #[p.v, q.v] w fun x w' => x = .returned (.bool true) ∧ Below w.heap.size w w' := by
  obtain ⟨tk, ⟨ao0, n0, c0'⟩, k, is, ki, ⟨ao, n, c⟩, ks⟩ := p
  obtain ⟨tk', ⟨ao0', n0', c0''⟩, k', is', ki', ⟨ao', n', c'⟩, ks'⟩ := q
  have KS : Hid (SsIn w.heap.size w ⟨ao, n, c⟩ ks) := hp.2.2.2
  have KS' : Hid (SsIn w.heap.size w ⟨ao', n', c'⟩ ks') := hq.2.2.2
  obtain ⟨g0, g1, bb, z2⟩ := two_boxes w (pO ⟨tk, ⟨ao0, n0, c0'⟩, k, is, ki, ⟨ao, n, c⟩, ks⟩) (pO ⟨tk', ⟨ao0', n0', c0''⟩, k', is', ki', ⟨ao', n', c'⟩, ks'⟩)
  have IP := Lib.hid hp
  have IQ := Lib.hid hq
  have HE := Lib.hid hE
  have HS := Lib.hid hS
  have WK := Lib.hid fun w hE hS => works10_any w hE hS
  have CW := Lib.hid fun (p : Pr) (w' : World) hI hB => gWeigh_any p w.heap.size 1500 w' hI hB (by decide)
  have CS := Lib.hid fun (p q : Pr) (w' : World) hI hJ hB => tSame_any w.heap.size p q w' hI hJ hB
  have GS := Lib.hid fun (p q : Pr) (w' : World) hI hJ hB => gSame_any w.heap.size p q w' hI hJ hB
  have CX := Lib.hid fun (e e' : Ex) (w' : World) hI hJ hB => tSameX_any w.heap.size e e' w' hI hJ hB
  have GX := Lib.hid fun (e e' : Ex) (w' : World) hI hJ hB => gSameX_any w.heap.size e e' w' hI hJ hB
  have hz : (bx w (pO ⟨tk, ⟨ao0, n0, c0'⟩, k, is, ki, ⟨ao, n, c⟩, ks⟩)).heap.size = w.heap.size + 1 := bx_size _ _
  have hmx : n ≤ maxLen := Nat.le_trans KS.out.1.1 KS.out.1.2.1
  unfold maxLen at hmx
  have HM := Lib.hid hmx
  clear hp hq hE hS z2 hmx
  show Calls Tryz.prog 4 #[.agg #[.int .i64 tk, .slice ao0 n0 c0', .slice is.ao is.n is.c, .slice ao n c], .agg #[.int .i64 tk', .slice ao0' n0' c0'', .slice is'.ao is'.n is'.c, .slice ao' n' c']] w _
  go_enter Tryz.func4, Tryz.ntmps4
  go_upto_region 1 with fail
  rw [bx_p w ⟨tk, ⟨ao0, n0, c0'⟩, k, is, ki, ⟨ao, n, c⟩, ks⟩, bx_p _ ⟨tk', ⟨ao0', n0', c0''⟩, k', is', ki', ⟨ao', n', c'⟩, ks'⟩]
  have G := Lib.hid (And.intro g0 g1)
  have B0 := Lib.hid bb
  clear g0 g1 bb hz
  generalize bx (bx w (pO ⟨tk, ⟨ao0, n0, c0'⟩, k, is, ki, ⟨ao, n, c⟩, ks⟩)) (pO ⟨tk', ⟨ao0', n0', c0''⟩, k', is', ki', ⟨ao', n', c'⟩, ks'⟩) = W at *
  go_wp2_with fail
  refine (WK.out _ (HE.out.below B0.out) (HS.out.below B0.out)).mono ?_
  rintro x w1 ⟨rfl, b1⟩
  have B1 := Lib.hid (bel_trans B0.out b1)
  have G1 := Lib.hid (And.intro (kept_obj b1 G.out.1) (kept_obj b1 G.out.2))
  obtain ⟨a0, a1, a2, a3⟩ := p_cells G1.out.1
  dsimp only at a0 a1 a2 a3
  clear b1 G B0 WK
  go_wp2_with fail
  refine (CW.out ⟨tk, ⟨ao0, n0, c0'⟩, k, is, ki, ⟨ao, n, c⟩, ks⟩ _ (IP.out.below B1.out (Nat.le_refl _)) B1.out.size).mono ?_
  rintro x w2 ⟨⟨n1, rfl, s1⟩, b2⟩
  have B2 := Lib.hid (bel_trans B1.out b2)
  have G2 := Lib.hid (And.intro (kept_obj b2 G1.out.1) (kept_obj b2 G1.out.2))
  have S1 := Lib.hid s1
  clear a0 a1 a2 a3
  obtain ⟨a0, a1, a2, a3⟩ := p_cells G2.out.2
  dsimp only at a0 a1 a2 a3
  clear b2 G1 B1 s1
  by_cases h1 : n1 ≤ 1500
  · have z1 : ¬ (1500 : Int) < (n1 : Int) := by omega
    have P1 := Lib.hid (S1.out.small h1)
    clear h1 S1
    go_wp2_with fail
    refine (CW.out ⟨tk', ⟨ao0', n0', c0''⟩, k', is', ki', ⟨ao', n', c'⟩, ks'⟩ _ (IQ.out.below B2.out (Nat.le_refl _)) B2.out.size).mono ?_
    rintro x w3 ⟨⟨n2, rfl, -⟩, b3⟩
    have B3 := Lib.hid (bel_trans B2.out b3)
    have G3 := Lib.hid (And.intro (kept_obj b3 G2.out.1) (kept_obj b3 G2.out.2))
    clear a0 a1 a2 a3
    obtain ⟨a0, a1, a2, a3⟩ := p_cells G3.out.1
    dsimp only at a0 a1 a2 a3
    clear b3 G2 B2 CW
    by_cases h2 : n2 ≤ 1500
    · have z2 : ¬ (1500 : Int) < (n2 : Int) := by omega
      clear h2
      have PC := Pr.c_le ⟨tk, ⟨ao0, n0, c0'⟩, k, is, ki, ⟨ao, n, c⟩, ks⟩
      have C1 := Lib.hid fun w' hI hB => tCount_any ⟨tk, ⟨ao0, n0, c0'⟩, k, is, ki, ⟨ao, n, c⟩, ks⟩ w.heap.size w' hI hB (by have := P1.out; omega) (by have := P1.out; omega)
      have C2 := Lib.hid fun w' hI hB => gCount_any ⟨tk, ⟨ao0, n0, c0'⟩, k, is, ki, ⟨ao, n, c⟩, ks⟩ w.heap.size w' hI hB (by have := P1.out; omega) (by have := P1.out; omega)
      clear PC
      generalize Pr.cs ⟨tk, ⟨ao0, n0, c0'⟩, k, is, ki, ⟨ao, n, c⟩, ks⟩ = u1 at *
      generalize Pr.ce ⟨tk, ⟨ao0, n0, c0'⟩, k, is, ki, ⟨ao, n, c⟩, ks⟩ = u2 at *
      go_wp2_with fail
      refine (C1.out _ (IP.out.below B3.out (Nat.le_refl _)) B3.out.size).mono ?_
      rintro x w4 ⟨rfl, b4⟩
      have B4 := Lib.hid (bel_trans B3.out b4)
      have G4 := Lib.hid (And.intro (kept_obj b4 G3.out.1) (kept_obj b4 G3.out.2))
      clear a0 a1 a2 a3
      obtain ⟨a0, a1, a2, a3⟩ := p_cells G4.out.1
      dsimp only at a0 a1 a2 a3
      clear b4 G3 B3 C1
      go_wp2_with fail
      refine (C2.out _ (IP.out.below B4.out (Nat.le_refl _)) B4.out.size).mono ?_
      rintro x w5 ⟨rfl, b5⟩
      have B5 := Lib.hid (bel_trans B4.out b5)
      have G5 := Lib.hid (And.intro (kept_obj b5 G4.out.1) (kept_obj b5 G4.out.2))
      clear a0 a1 a2 a3
      obtain ⟨a0, a1, a2, a3⟩ := p_cells G5.out.1
      obtain ⟨d0, d1, d2, d3⟩ := p_cells G5.out.2
      dsimp only at a0 a1 a2 a3 d0 d1 d2 d3
      clear b5 G4 B4 C2
      go_wp2_with fail
      refine (GS.out ⟨tk, ⟨ao0, n0, c0'⟩, k, is, ki, ⟨ao, n, c⟩, ks⟩ ⟨tk', ⟨ao0', n0', c0''⟩, k', is', ki', ⟨ao', n', c'⟩, ks'⟩ _ (IP.out.below B5.out (Nat.le_refl _)) (IQ.out.below B5.out (Nat.le_refl _)) B5.out.size).mono ?_
      rintro x w6 ⟨rfl, b6⟩
      have B6 := Lib.hid (bel_trans B5.out b6)
      have G6 := Lib.hid (And.intro (kept_obj b6 G5.out.1) (kept_obj b6 G5.out.2))
      clear a0 a1 a2 a3 d0 d1 d2 d3
      obtain ⟨a0, a1, a2, a3⟩ := p_cells G6.out.1
      obtain ⟨d0, d1, d2, d3⟩ := p_cells G6.out.2
      dsimp only at a0 a1 a2 a3 d0 d1 d2 d3
      clear b6 G5 B5 GS
      go_wp2_with fail
      refine (CS.out ⟨tk', ⟨ao0', n0', c0''⟩, k', is', ki', ⟨ao', n', c'⟩, ks'⟩ ⟨tk, ⟨ao0, n0, c0'⟩, k, is, ki, ⟨ao, n, c⟩, ks⟩ _ (IQ.out.below B6.out (Nat.le_refl _)) (IP.out.below B6.out (Nat.le_refl _)) B6.out.size).mono ?_
      rintro x w7 ⟨rfl, b7⟩
      have B7 := Lib.hid (bel_trans B6.out b7)
      have G7 := Lib.hid (And.intro (kept_obj b7 G6.out.1) (kept_obj b7 G6.out.2))
      rw [Pr.symm_eq ⟨tk, ⟨ao0, n0, c0'⟩, k, is, ki, ⟨ao, n, c⟩, ks⟩ ⟨tk', ⟨ao0', n0', c0''⟩, k', is', ki', ⟨ao', n', c'⟩, ks'⟩]
      clear b7 G6 B6 a0 a1 a2 a3 d0 d1 d2 d3
      have SMx : ∃ y, Pr.same ⟨tk, ⟨ao0, n0, c0'⟩, k, is, ki, ⟨ao, n, c⟩, ks⟩ ⟨tk', ⟨ao0', n0', c0''⟩, k', is', ki', ⟨ao', n', c'⟩, ks'⟩ = y := ⟨_, rfl⟩
      obtain ⟨y, hy⟩ := SMx
      have HY := Lib.hid hy
      rw [hy]
      clear hy
      go_wp2_with fail
      go_loopg [12] n (fun gk i wr => ∃ j : Nat, i = .int .i64 (j : Int) ∧ Hid (gk = n - j ∧ j ≤ n) ∧ Hid (Below w7.heap.size w7 wr))
      case atStart => exact ⟨0, rfl, ⟨rfl, Nat.zero_le _⟩, Below.refl _ _⟩
      case round =>
        obtain ⟨j, rfl, HJ, BW⟩ := hrel
        have GW := Lib.hid (And.intro (kept_obj BW.out G7.out.1) (kept_obj BW.out G7.out.2))
        have BEL := Lib.hid (bel_trans B7.out BW.out)
        obtain ⟨a0, a1, a2, a3⟩ := p_cells GW.out.1
        obtain ⟨d0, d1, d2, d3⟩ := p_cells GW.out.2
        dsimp only at a0 a1 a2 a3 d0 d1 d2 d3
        by_cases hlt : j < n
        · have z3 : (j : Int) < (n : Int) := by omega
          by_cases hlt' : j < n'
          · have z4 : (j : Int) < (n' : Int) := by omega
            have ovi : IntKind.i64.wrap ((j : Int) + 1) = ((j + 1 : Nat) : Int) := by have := HM.out; rw [IntKind.wrap_i64]; omega
            obtain ⟨a, b, o, rfl, hA, hb, XA, I⟩ := SsIn.at (KS.out.below BEL.out (Nat.le_refl _)) (i := j) hlt
            obtain ⟨a', b', o', rfl, hA', hb', XB, I'⟩ := SsIn.at (KS'.out.below BEL.out (Nat.le_refl _)) (i := j) hlt'
            have HLT := Lib.hid hlt
            have KG := Lib.hid fun w' (hb : Below wr.heap.size wr w') => And.intro (cell_kept hb a3) (And.intro (cell_kept hb d3) (And.intro (cell_kept hb XA.c4) (And.intro (cell_kept hb XA.c5) (And.intro (cell_kept hb XA.c6) (And.intro (cell_kept hb XA.c7) (And.intro (cell_kept hb XA.c8) (And.intro (cell_kept hb XA.c9) (And.intro (cell_kept hb XA.c10) (And.intro (cell_kept hb XB.c4) (And.intro (cell_kept hb XB.c5) (And.intro (cell_kept hb XB.c6) (And.intro (cell_kept hb XB.c7) (And.intro (cell_kept hb XB.c8) (And.intro (cell_kept hb XB.c9) (cell_kept hb XB.c10)))))))))))))))
            have CXJ := Lib.hid fun w' (hb : Below wr.heap.size wr w') => CX.out (ks j).e (ks' j).e w' (I.ex.below hb BEL.out.size) (I'.ex.below hb BEL.out.size) (bel_trans BEL.out hb).size
            have GXJ := Lib.hid fun w' (hb : Below wr.heap.size wr w') => GX.out (ks j).e (ks' j).e w' (I.ex.below hb BEL.out.size) (I'.ex.below hb BEL.out.size) (bel_trans BEL.out hb).size
            generalize (ks j).e.same (ks' j).e = z at *
            clear XA XB hb hb' I I' hlt hlt' a0 a1 a2 d0 d1 d2
            as_aux_lemma =>
              go_upto_region 13 with fail
              clear a3 d3
              go_region_held3 (fun w' => w'.cell? ⟨w.heap.size, 3, none⟩ = some (.slice (some a) n c) ∧ w'.cell? ⟨w.heap.size + 1, 3, none⟩ = some (.slice (some a') n' c') ∧ w'.cell? ⟨b, o + 4, none⟩ = some (.int .u8 (ks j).e.h.op) ∧ w'.cell? ⟨b, o + 5, none⟩ = some (.int .i64 (ks j).e.h.ps) ∧ w'.cell? ⟨b, o + 6, none⟩ = some (.bool (ks j).e.h.bo) ∧ w'.cell? ⟨b, o + 7, none⟩ = some (.int .i32 (ks j).e.h.it) ∧ w'.cell? ⟨b, o + 8, none⟩ = some (.int .u64 (ks j).e.h.fl) ∧ w'.cell? ⟨b, o + 9, none⟩ = some (.string ⟨(ks j).e.h.nm.toArray⟩) ∧ w'.cell? ⟨b, o + 10, none⟩ = some (.slice (ks j).e.h.s.ao (ks j).e.h.s.n (ks j).e.h.s.c) ∧ w'.cell? ⟨b', o' + 4, none⟩ = some (.int .u8 (ks' j).e.h.op) ∧ w'.cell? ⟨b', o' + 5, none⟩ = some (.int .i64 (ks' j).e.h.ps) ∧ w'.cell? ⟨b', o' + 6, none⟩ = some (.bool (ks' j).e.h.bo) ∧ w'.cell? ⟨b', o' + 7, none⟩ = some (.int .i32 (ks' j).e.h.it) ∧ w'.cell? ⟨b', o' + 8, none⟩ = some (.int .u64 (ks' j).e.h.fl) ∧ w'.cell? ⟨b', o' + 9, none⟩ = some (.string ⟨(ks' j).e.h.nm.toArray⟩) ∧ w'.cell? ⟨b', o' + 10, none⟩ = some (.slice (ks' j).e.h.s.ao (ks' j).e.h.s.n (ks' j).e.h.s.c))
                (first | (refine KG.out _ ?_; (repeat (first | exact Below.refl _ _ | exact X2 | exact X1 | refine bel_drew ?_)); done))
                (first
                  | (go_at_call 18; first
                      | (have _ := X1; refine (CXJ.out _ ?_).mono ?_; (· repeat (first | exact Below.refl _ _ | exact X1 | refine bel_drew ?_)); rintro x w9 ⟨rfl, b9⟩; have X2 : Below wr.heap.size wr w9 := (by refine bel_trans ?_ b9; repeat (first | exact Below.refl _ _ | exact X1 | refine bel_drew ?_)))
                      | (refine (CXJ.out _ ?_).mono ?_; (· repeat (first | exact Below.refl _ _ | refine bel_drew ?_)); rintro x w8 ⟨rfl, b8⟩; have X1 : Below wr.heap.size wr w8 := (by refine bel_trans ?_ b8; repeat (first | exact Below.refl _ _ | refine bel_drew ?_))))
                  | (go_at_call 19; first
                      | (have _ := X1; refine (GXJ.out _ ?_).mono ?_; (· repeat (first | exact Below.refl _ _ | exact X1 | refine bel_drew ?_)); rintro x w9 ⟨rfl, b9⟩; have X2 : Below wr.heap.size wr w9 := (by refine bel_trans ?_ b9; repeat (first | exact Below.refl _ _ | exact X1 | refine bel_drew ?_)))
                      | (refine (GXJ.out _ ?_).mono ?_; (· repeat (first | exact Below.refl _ _ | refine bel_drew ?_)); rintro x w8 ⟨rfl, b8⟩; have X1 : Below wr.heap.size wr w8 := (by refine bel_trans ?_ b8; repeat (first | exact Below.refl _ _ | refine bel_drew ?_)))))
              all_goals
                have BX := Lib.hid (bel_trans BW.out X2)
                clear X1 X2 KG CXJ GXJ
                go_wp2_with fail
                go_roundg (n - (j + 1))
                case measure => have := HJ.out; have := HLT.out; omega
                case rel => exact ⟨j + 1, by go_num, ⟨rfl, HLT.out⟩, BX.out⟩
          · have z4 : ¬ (j : Int) < (n' : Int) := by omega
            as_aux_lemma =>
              have HPP := Lib.hid (Pr.refl ⟨tk, ⟨ao0, n0, c0'⟩, k, is, ki, ⟨ao, n, c⟩, ks⟩)
              have H8 := Lib.hid (CS.out ⟨tk, ⟨ao0, n0, c0'⟩, k, is, ki, ⟨ao, n, c⟩, ks⟩ ⟨tk', ⟨ao0', n0', c0''⟩, k', is', ki', ⟨ao', n', c'⟩, ks'⟩ wr (IP.out.below BEL.out (Nat.le_refl _)) (IQ.out.below BEL.out (Nat.le_refl _)) BEL.out.size)
              clear hlt hlt'
              go_wp2_with fail
              refine H8.out.mono ?_
              rintro x w8 ⟨rfl, b8⟩
              have B8 := Lib.hid (bel_trans BEL.out b8)
              obtain ⟨a0, a1, a2, a3⟩ := p_cells (kept_obj b8 GW.out.1)
              dsimp only at a0 a1 a2 a3
              rw [HY.out]
              have C9 := Lib.hid (CS.out ⟨tk, ⟨ao0, n0, c0'⟩, k, is, ki, ⟨ao, n, c⟩, ks⟩ ⟨tk, ⟨ao0, n0, c0'⟩, k, is, ki, ⟨ao, n, c⟩, ks⟩ w8 (IP.out.below B8.out (Nat.le_refl _)) (IP.out.below B8.out (Nat.le_refl _)) B8.out.size)
              rw [HPP.out] at C9
              clear b8 d0 d1 d2 d3
              go_wp2_with fail
              refine C9.out.mono ?_
              rintro x w9 ⟨rfl, b9⟩
              have B9 := Lib.hid (bel_trans B8.out b9)
              clear b9
              go_wp2_with fail
              go_ret
              exact ⟨rfl, B9.out⟩
        · have z3 : ¬ (j : Int) < (n : Int) := by omega
          as_aux_lemma =>
            have HPP := Lib.hid (Pr.refl ⟨tk, ⟨ao0, n0, c0'⟩, k, is, ki, ⟨ao, n, c⟩, ks⟩)
            have H8 := Lib.hid (CS.out ⟨tk, ⟨ao0, n0, c0'⟩, k, is, ki, ⟨ao, n, c⟩, ks⟩ ⟨tk', ⟨ao0', n0', c0''⟩, k', is', ki', ⟨ao', n', c'⟩, ks'⟩ wr (IP.out.below BEL.out (Nat.le_refl _)) (IQ.out.below BEL.out (Nat.le_refl _)) BEL.out.size)
            clear hlt
            go_wp2_with fail
            refine H8.out.mono ?_
            rintro x w8 ⟨rfl, b8⟩
            have B8 := Lib.hid (bel_trans BEL.out b8)
            obtain ⟨a0, a1, a2, a3⟩ := p_cells (kept_obj b8 GW.out.1)
            dsimp only at a0 a1 a2 a3
            rw [HY.out]
            have C9 := Lib.hid (CS.out ⟨tk, ⟨ao0, n0, c0'⟩, k, is, ki, ⟨ao, n, c⟩, ks⟩ ⟨tk, ⟨ao0, n0, c0'⟩, k, is, ki, ⟨ao, n, c⟩, ks⟩ w8 (IP.out.below B8.out (Nat.le_refl _)) (IP.out.below B8.out (Nat.le_refl _)) B8.out.size)
            rw [HPP.out] at C9
            clear b8 d0 d1 d2 d3
            go_wp2_with fail
            refine C9.out.mono ?_
            rintro x w9 ⟨rfl, b9⟩
            have B9 := Lib.hid (bel_trans B8.out b9)
            clear b9
            go_wp2_with fail
            go_ret
            exact ⟨rfl, B9.out⟩
    · have z2 : (1500 : Int) < (n2 : Int) := by omega
      clear h2
      go_wp2_with fail
      go_ret
      exact ⟨rfl, B3.out⟩
  · have z1 : (1500 : Int) < (n1 : Int) := by omega
    clear h1
    go_wp2_with fail
    go_ret
    exact ⟨rfl, B2.out⟩
theorem lsame_card (p q : Pr) (w : World) (hp : p.In w.heap.size w) (hq : q.In w.heap.size w) (hE : EnvOk w ∧ SgOk w) :
    Calls Tryz.prog 4 #[p.v, q.v] w fun x w' => x = .returned (.bool true) ∧ Below w.heap.size w w' := lsame_walk p q w hp hq hE.1 hE.2
end Go.Proofs.YtgjgcehoakacoaaGreatDoor
