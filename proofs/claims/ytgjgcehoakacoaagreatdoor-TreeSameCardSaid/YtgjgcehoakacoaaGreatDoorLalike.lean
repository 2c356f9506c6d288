/-
  TreeAlike, as a walk: whatever three programs are handed in, it answers true. Conditions: the listed tables stand.
-/
import Derived.Test.YtgjgcehoakacoaaGreatDoorMTl
import Derived.Test.YtgjgcehoakacoaaGreatDoorMTc
namespace Go.Proofs.YtgjgcehoakacoaaGreatDoor
open Go.RowKit
set_option maxRecDepth 100000

theorem Sat.small {t m x : Nat} (h : Sat t m x) (hx : x ≤ m) : t ≤ m := by
  rcases Nat.lt_or_ge m t with g | g
  · have := h.2.2 g; omega
  · exact g
theorem three_boxes (w : World) (a b c : Obj) : (bx (bx (bx w a) b) c).heap[w.heap.size]? = some a ∧ (bx (bx (bx w a) b) c).heap[w.heap.size + 1]? = some b ∧ (bx (bx (bx w a) b) c).heap[w.heap.size + 1 + 1]? = some c ∧ Below w.heap.size w (bx (bx (bx w a) b) c) :=
  ⟨hp_old _ _ (hp_old _ _ (hp_at _ _ _ rfl)), hp_old _ _ (hp_at _ _ _ (bx_size _ _).symm), hp_at _ _ _ (by rw [bx_size, bx_size]), bx_bel (bx_bel (bx_bel (Below.refl _ _) (Nat.le_refl _) _) (Nat.le_refl _) _) (Nat.le_refl _) _⟩
set_option maxHeartbeats 6400000 in
theorem lalike_walk (p q r : Pr) (w : World) (hp : p.In w.heap.size w) (hq : q.In w.heap.size w) (hr : r.In w.heap.size w) (hE : EnvOk w) (hS : SgOk w) :
    Calls Tryz.prog 5 #[p.v, q.v, r.v] w fun x w' => x = .returned (.bool true) ∧ Below w.heap.size w w' := by
  obtain ⟨g0, g1, g2, bb⟩ := three_boxes w (pO p) (pO q) (pO r)
  have IP := Lib.hid hp
  have IQ := Lib.hid hq
  have IR := Lib.hid hr
  have HE := Lib.hid hE
  have HS := Lib.hid hS
  have WK := Lib.hid fun w hE hS => works10_any w hE hS
  have CW := Lib.hid fun (p : Pr) (w' : World) hI hB => gWeigh_any p w.heap.size 1500 w' hI hB (by decide)
  have CS := Lib.hid fun (p q : Pr) (w' : World) hI hJ hB => tSame_any w.heap.size p q w' hI hJ hB
  have hz : (bx w (pO p)).heap.size = w.heap.size + 1 := bx_size _ _
  have hz2 : (bx (bx w (pO p)) (pO q)).heap.size = w.heap.size + 1 + 1 := by rw [bx_size, bx_size]
  clear hp hq hr hE hS
  show Calls Tryz.prog 5 #[.agg #[.int .i64 p.ticks, .slice p.ds.ao p.ds.n p.ds.c, .slice p.is.ao p.is.n p.is.c, .slice p.ss.ao p.ss.n p.ss.c], .agg #[.int .i64 q.ticks, .slice q.ds.ao q.ds.n q.ds.c, .slice q.is.ao q.is.n q.is.c, .slice q.ss.ao q.ss.n q.ss.c], .agg #[.int .i64 r.ticks, .slice r.ds.ao r.ds.n r.ds.c, .slice r.is.ao r.is.n r.is.c, .slice r.ss.ao r.ss.n r.ss.c]] w _
  go_enter Tryz.func5, Tryz.ntmps5
  go_upto_region 1 with fail
  rw [bx_p, bx_p, bx_p]
  have G := Lib.hid (And.intro g0 (And.intro g1 g2))
  have B0 := Lib.hid bb
  clear g0 g1 g2 bb hz hz2
  generalize bx (bx (bx w (pO p)) (pO q)) (pO r) = W at *
  go_wp2_with fail
  refine (WK.out _ (HE.out.below B0.out) (HS.out.below B0.out)).mono ?_
  rintro x w1 ⟨rfl, b1⟩
  have B1 := Lib.hid (bel_trans B0.out b1)
  have G1 := Lib.hid (And.intro (kept_obj b1 G.out.1) (And.intro (kept_obj b1 G.out.2.1) (kept_obj b1 G.out.2.2)))
  obtain ⟨a0, a1, a2, a3⟩ := p_cells G1.out.1
  clear b1 G B0 WK
  go_wp2_with fail
  refine (CW.out p _ (IP.out.below B1.out (Nat.le_refl _)) B1.out.size).mono ?_
  rintro x w2 ⟨⟨n1, rfl, s1⟩, b2⟩
  have B2 := Lib.hid (bel_trans B1.out b2)
  have G2 := Lib.hid (And.intro (kept_obj b2 G1.out.1) (And.intro (kept_obj b2 G1.out.2.1) (kept_obj b2 G1.out.2.2)))
  have S1 := Lib.hid s1
  obtain ⟨a0, a1, a2, a3⟩ := p_cells G2.out.2.1
  clear b2 G1 B1 s1
  by_cases h1 : n1 ≤ 1500
  · have z1 : ¬ (1500 : Int) < (n1 : Int) := by omega
    have P1 := Lib.hid (S1.out.small h1)
    clear h1 S1
    go_wp2_with fail
    refine (CW.out q _ (IQ.out.below B2.out (Nat.le_refl _)) B2.out.size).mono ?_
    rintro x w3 ⟨⟨n2, rfl, s2⟩, b3⟩
    have B3 := Lib.hid (bel_trans B2.out b3)
    have G3 := Lib.hid (And.intro (kept_obj b3 G2.out.1) (And.intro (kept_obj b3 G2.out.2.1) (kept_obj b3 G2.out.2.2)))
    have S2 := Lib.hid s2
    obtain ⟨a0, a1, a2, a3⟩ := p_cells G3.out.2.2
    clear b3 G2 B2 s2
    by_cases h2 : n2 ≤ 1500
    · have z2 : ¬ (1500 : Int) < (n2 : Int) := by omega
      have P2 := Lib.hid (S2.out.small h2)
      clear h2 S2
      go_wp2_with fail
      refine (CW.out r _ (IR.out.below B3.out (Nat.le_refl _)) B3.out.size).mono ?_
      rintro x w4 ⟨⟨n3, rfl, -⟩, b4⟩
      have B4 := Lib.hid (bel_trans B3.out b4)
      have G4 := Lib.hid (And.intro (kept_obj b4 G3.out.1) (And.intro (kept_obj b4 G3.out.2.1) (kept_obj b4 G3.out.2.2)))
      clear b4 G3 B3 CW
      by_cases h3 : n3 ≤ 1500
      · have z3 : ¬ (1500 : Int) < (n3 : Int) := by omega
        obtain ⟨a0, a1, a2, a3⟩ := p_cells G4.out.1
        obtain ⟨c0, c1, c2, c3⟩ := p_cells G4.out.2.1
        clear h3
        go_wp2_with fail
        refine (CS.out p q _ (IP.out.below B4.out (Nat.le_refl _)) (IQ.out.below B4.out (Nat.le_refl _)) B4.out.size).mono ?_
        rintro x w5 ⟨rfl, b5⟩
        have B5 := Lib.hid (bel_trans B4.out b5)
        have G5 := Lib.hid (And.intro (kept_obj b5 G4.out.1) (And.intro (kept_obj b5 G4.out.2.1) (kept_obj b5 G4.out.2.2)))
        obtain ⟨a0, a1, a2, a3⟩ := p_cells G5.out.2.1
        obtain ⟨c0, c1, c2, c3⟩ := p_cells G5.out.2.2
        clear b5 G4 B4
        go_wp2_with fail
        refine (CS.out q r _ (IQ.out.below B5.out (Nat.le_refl _)) (IR.out.below B5.out (Nat.le_refl _)) B5.out.size).mono ?_
        rintro x w6 ⟨rfl, b6⟩
        have B6 := Lib.hid (bel_trans B5.out b6)
        have G6 := Lib.hid (And.intro (kept_obj b6 G5.out.1) (And.intro (kept_obj b6 G5.out.2.1) (kept_obj b6 G5.out.2.2)))
        clear b6 G5 B5 a0 a1 a2 a3 c0 c1 c2 c3
        go_upto_region 8 with fail
        cases h1 : p.same q with
        | false =>
          clear h1
          go_quiet (fail)
          go_wp2_with fail
          go_ret
          exact ⟨by simp, bel_drewN B6.out _⟩
        | true =>
          have eT := Pr.same_txt prT h1
          obtain ⟨T, hT⟩ : ∃ T, p.txt prT = T := ⟨_, rfl⟩
          have C1 := Lib.hid fun w' hb => tPrint_any p w' ((IP.out.below (bel_trans B6.out hb) (Nat.le_refl _)).mono' (bel_trans B6.out hb).size) (HE.out.below (bel_trans B6.out hb)) (HS.out.below (bel_trans B6.out hb)) (by have := P1.out; omega) (Pr.txt_len _ _ p IP.out P1.out)
          have C2 := Lib.hid fun w' hb => tPrint_any q w' ((IQ.out.below (bel_trans B6.out hb) (Nat.le_refl _)).mono' (bel_trans B6.out hb).size) (HE.out.below (bel_trans B6.out hb)) (HS.out.below (bel_trans B6.out hb)) (by have := P2.out; omega) (Pr.txt_len _ _ q IQ.out P2.out)
          rw [← eT, hT] at C2
          rw [hT] at C1
          have KG := Lib.hid fun w' (hb : Below w6.heap.size w6 w') => And.intro (p_cells (kept_obj hb G6.out.1)) (p_cells (kept_obj hb G6.out.2.1))
          have H1 := Lib.hid h1
          clear h1 eT hT
          go_region_held3 (fun w' => (w'.cell? ⟨w.heap.size, 0, none⟩ = some (.int .i64 p.ticks) ∧ w'.cell? ⟨w.heap.size, 1, none⟩ = some (.slice p.ds.ao p.ds.n p.ds.c) ∧ w'.cell? ⟨w.heap.size, 2, none⟩ = some (.slice p.is.ao p.is.n p.is.c) ∧ w'.cell? ⟨w.heap.size, 3, none⟩ = some (.slice p.ss.ao p.ss.n p.ss.c)) ∧
              (w'.cell? ⟨w.heap.size + 1, 0, none⟩ = some (.int .i64 q.ticks) ∧ w'.cell? ⟨w.heap.size + 1, 1, none⟩ = some (.slice q.ds.ao q.ds.n q.ds.c) ∧ w'.cell? ⟨w.heap.size + 1, 2, none⟩ = some (.slice q.is.ao q.is.n q.is.c) ∧ w'.cell? ⟨w.heap.size + 1, 3, none⟩ = some (.slice q.ss.ao q.ss.n q.ss.c)))
            (first | (refine KG.out _ ?_; (repeat (first | exact Below.refl _ _ | exact X2 | exact X1 | refine bel_drew ?_)); done))
            (first
              | (go_at_call 12; first
                  | (have _ := X1; refine (C2.out _ ?_).mono ?_; (· repeat (first | exact Below.refl _ _ | exact X1 | refine bel_drew ?_)); rintro y w8 ⟨rfl, b8⟩; have X2 : Below w6.heap.size w6 w8 := (by refine bel_trans ?_ b8; repeat (first | exact Below.refl _ _ | exact X1 | refine bel_drew ?_)))
                  | (refine (C1.out _ ?_).mono ?_; (· repeat (first | exact Below.refl _ _ | refine bel_drew ?_)); rintro y w7 ⟨rfl, b7⟩; have X1 : Below w6.heap.size w6 w7 := (by refine bel_trans ?_ b7; repeat (first | exact Below.refl _ _ | refine bel_drew ?_)))))
          all_goals
            have B8 := Lib.hid (bel_trans B6.out X2)
            obtain ⟨a0, a1, a2, a3⟩ := p_cells (kept_obj X2 G6.out.1)
            obtain ⟨c0, c1, c2, c3⟩ := p_cells (kept_obj X2 G6.out.2.2)
            clear X1 X2 KG C1 C2
            cases h2 : q.same r with
            | false =>
              clear h2
              go_wp2_with fail
              go_ret
              exact ⟨rfl, B8.out⟩
            | true =>
              have H3 := Lib.hid (Pr.trans H1.out h2)
              clear h2
              go_wp2_with fail
              refine (CS.out p r _ (IP.out.below B8.out (Nat.le_refl _)) (IR.out.below B8.out (Nat.le_refl _)) B8.out.size).mono ?_
              rintro x w9 ⟨rfl, b9⟩
              have B9 := Lib.hid (bel_trans B8.out b9)
              rw [H3.out]
              clear b9
              go_wp2_with fail
              go_ret
              exact ⟨rfl, B9.out⟩
      · have z3 : (1500 : Int) < (n3 : Int) := by omega
        clear h3
        go_wp2_with fail
        go_ret
        exact ⟨rfl, B4.out⟩
    · have z2 : (1500 : Int) < (n2 : Int) := by omega
      clear h2
      go_wp2_with fail
      go_ret
      exact ⟨rfl, B3.out⟩
  · have z1 : (1500 : Int) < (n1 : Int) := by omega
    clear h1
    go_wp2_with fail
    go_ret
    exact ⟨rfl, B2.out⟩
theorem lalike_card (p q r : Pr) (w : World) (hp : p.In w.heap.size w) (hq : q.In w.heap.size w) (hr : r.In w.heap.size w) (hE : EnvOk w ∧ SgOk w) :
    Calls Tryz.prog 5 #[p.v, q.v, r.v] w fun x w' => x = .returned (.bool true) ∧ Below w.heap.size w w' := lalike_walk p q r w hp hq hr hE.1 hE.2
end Go.Proofs.YtgjgcehoakacoaaGreatDoor
