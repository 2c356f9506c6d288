/-
  TreePrints, as a walk: whatever program is handed in, it answers true. Conditions: the listed tables stand.
-/
import Derived.Test.YtgjgcehoakacoaaGreatDoorMTq
import Derived.Test.YtgjgcehoakacoaaGreatDoorMTl
import Derived.Test.YtgjgcehoakacoaaGreatDoorMTc
namespace Go.Proofs.YtgjgcehoakacoaaGreatDoor
open Go.RowKit
set_option maxRecDepth 100000

theorem cell_kept {w w' : World} {a : Addr} {v : Value} (hb : Below w.heap.size w w') (h : w.cell? a = some v) : w'.cell? a = some v := (hb.cell (World.block_lt_of_cell? _ _ h)).trans h
theorem sat_small {t m x : Nat} (h : Sat t m x) (hx : x ≤ m) : t ≤ m := by
  unfold Sat at h
  omega
set_option maxHeartbeats 6400000 in
theorem lprints10_walk (p : Pr) (w : World) (hp : p.In w.heap.size w) (hE : EnvOk w) (hS : SgOk w) :
    Calls Tryz.prog 3 #[p.v] w fun x w' => x = .returned (.bool true) ∧ Below w.heap.size w w' := by
  have FL := Lib.hid (Pr.fls_le p)
  have FW := Lib.hid (Pr.fls_word p hp)
  obtain ⟨i0, hi, hz0, hz1, hz2⟩ := info_parts str_info
  have HI0 := Lib.hid (And.intro hi (And.intro hz0 (And.intro hz1 hz2)))
  obtain ⟨tk, ⟨ao0, n0, c0'⟩, k, is, ki, ⟨ao, n, c⟩, ks⟩ := p
  have KS : Hid (SsIn w.heap.size w ⟨ao, n, c⟩ ks) := hp.2.2.2
  have IP := Lib.hid hp
  have HE := Lib.hid hE
  have HS := Lib.hid hS
  have WK := Lib.hid fun w hE hS => works10_any w hE hS
  have CW := Lib.hid fun (p : Pr) (w' : World) hI hB => gWeigh_any p w.heap.size 1500 w' hI hB (by decide)
  have CF := Lib.hid fun (p : Pr) (w' : World) hI hB hl => gFls_any w.heap.size p w' hI hB hl
  have hmx : n ≤ maxLen := Nat.le_trans KS.out.1.1 KS.out.1.2.1
  unfold maxLen at hmx
  have HM := Lib.hid hmx
  have G := Lib.hid (bx_new w (pO ⟨tk, ⟨ao0, n0, c0'⟩, k, is, ki, ⟨ao, n, c⟩, ks⟩))
  have B0 := Lib.hid (bx_bel (Below.refl w.heap.size w) (Nat.le_refl _) (pO ⟨tk, ⟨ao0, n0, c0'⟩, k, is, ki, ⟨ao, n, c⟩, ks⟩))
  clear hp hE hS hmx hi hz0 hz1 hz2
  show Calls Tryz.prog 3 #[.agg #[.int .i64 tk, .slice ao0 n0 c0', .slice is.ao is.n is.c, .slice ao n c]] w _
  go_enter Tryz.func3, Tryz.ntmps3
  go_upto_region 1 with fail
  rw [bx_p w ⟨tk, ⟨ao0, n0, c0'⟩, k, is, ki, ⟨ao, n, c⟩, ks⟩]
  generalize bx w (pO ⟨tk, ⟨ao0, n0, c0'⟩, k, is, ki, ⟨ao, n, c⟩, ks⟩) = W at *
  go_wp2_with fail
  refine (WK.out _ (HE.out.below B0.out) (HS.out.below B0.out)).mono ?_
  rintro x w1 ⟨rfl, b1⟩
  have B1 := Lib.hid (bel_trans B0.out b1)
  have G1 := Lib.hid (kept_obj b1 G.out)
  obtain ⟨a0, a1, a2, a3⟩ := p_cells G1.out
  dsimp only at a0 a1 a2 a3
  clear b1 G B0 WK
  go_wp2_with fail
  refine (CW.out ⟨tk, ⟨ao0, n0, c0'⟩, k, is, ki, ⟨ao, n, c⟩, ks⟩ _ (IP.out.below B1.out (Nat.le_refl _)) B1.out.size).mono ?_
  rintro x w2 ⟨⟨n1, rfl, s1⟩, b2⟩
  have B2 := Lib.hid (bel_trans B1.out b2)
  have G2 := Lib.hid (kept_obj b2 G1.out)
  have S1 := Lib.hid s1
  clear a0 a1 a2 a3 b2 G1 B1 s1
  by_cases h1 : n1 ≤ 1500
  · have z1 : ¬ (1500 : Int) < (n1 : Int) := by omega
    have P1 := Lib.hid (sat_small S1.out h1)
    obtain ⟨a0, a1, a2, a3⟩ := p_cells G2.out
    dsimp only at a0 a1 a2 a3
    clear h1 S1
    go_wp2_with fail
    refine (CF.out ⟨tk, ⟨ao0, n0, c0'⟩, k, is, ki, ⟨ao, n, c⟩, ks⟩ _ (IP.out.below B2.out (Nat.le_refl _)) B2.out.size (by have h2 := FL.out; have h3 := P1.out; omega)).mono ?_
    rintro x w3 ⟨⟨A, cc, rfl, own⟩, b3⟩
    have B3 := Lib.hid (bel_trans B2.out b3)
    have G3 := Lib.hid (kept_obj b3 G2.out)
    have MX : Hid ((Pr.fls ⟨tk, ⟨ao0, n0, c0'⟩, k, is, ki, ⟨ao, n, c⟩, ks⟩).length ≤ 1500) := Nat.le_trans FL.out P1.out
    obtain ⟨l, hl⟩ : ∃ l, Pr.fls ⟨tk, ⟨ao0, n0, c0'⟩, k, is, ki, ⟨ao, n, c⟩, ks⟩ = l := ⟨_, rfl⟩
    have HLL := Lib.hid hl
    rw [hl] at own MX FW FL
    obtain ⟨m, hm⟩ : ∃ m, l.length = m := ⟨_, rfl⟩
    have HMM := Lib.hid hm
    rw [hl, hm]
    rw [hm] at own MX
    have OF := Lib.hid own
    clear a0 a1 a2 a3 b3 own G2 B2 CW CF hl hm FL
    go_upto_region 7 with fail
    rw [show w3.alloc (.cells #[.slice A m cc, .slice none 0 0] 32 (0, 0)) = bx w3 (qO A m cc none 0 0) from rfl]
    have BV0 := bx_bel (Below.refl w3.heap.size w3) (Nat.le_refl _) (qO A m cc none 0 0)
    have Q0 := Lib.hid (bx_new w3 (qO A m cc none 0 0))
    have BV := Lib.hid BV0
    have Z0 : Hid ((bx w3 (qO A m cc none 0 0)).heap.size = w3.heap.size + 1) := bx_size _ _
    clear BV0
    generalize bx w3 (qO A m cc none 0 0) = V at *
    go_wp2_with fail
    go_loopg [5] m (fun gk i wr => ∃ (j : Nat) (TA : Option Addr) (tc : Nat), i = .int .i64 (j : Int) ∧ Hid (gk = m - j ∧ j ≤ m) ∧ Hid (wr.heap[w3.heap.size]? = some (qO A m cc TA j tc)) ∧ Hid (wr.ownsRow (w3.heap.size + 1) 9 1 (.slice TA j tc) j (svs (l.take j))) ∧ Hid (Below w3.heap.size w3 wr))
    case atStart => exact ⟨0, none, 0, rfl, ⟨rfl, Nat.zero_le _⟩, Q0.out, World.ownsRow_nil _ _ _ _, BV.out⟩
    case round =>
      clear Q0 BV Z0
      obtain ⟨j, TA, tc, rfl, HJ, QJ, OJ, BJ⟩ := hrel
      obtain ⟨t0, t1⟩ := q_cells QJ.out
      by_cases hlt : j < m
      · have z0 : (j : Int) < (m : Int) := by omega
        have ovi : IntKind.i64.wrap ((j : Int) + 1) = ((j + 1 : Nat) : Int) := by have := MX.out; rw [IntKind.wrap_i64]; omega
        have HLT := Lib.hid hlt
        obtain ⟨x, hx⟩ : ∃ x, l[j]? = some x := ⟨_, List.getElem?_eq_getElem (by rw [HMM.out]; exact hlt)⟩
        have HX := Lib.hid hx
        have WX := Lib.hid (FW.out x (List.mem_of_getElem? hx))
        obtain ⟨g, rfl, hg0, hg1, f0⟩ := own_cells OF.out (i := j) (v := .int .u64 x) (by unfold fvs; rw [List.getElem?_map, hx]; rfl)
        have f1 := cell_kept BJ.out f0
        have CP := Lib.hid fun w' (hb : Below wr.heap.size wr w') => print_any x WX.out w' (HE.out.below (bel_trans (bel_trans B3.out BJ.out) hb))
        have PB : Hid (w3.heap.size + 1 ≤ wr.heap.size) := (Array.getElem?_eq_some_iff.1 QJ.out).1
        have TK : Hid (svs (l.take j) ++ [.string ⟨(prT x).toArray⟩] = svs (l.take (j + 1))) := by
          show _ = _
          rw [List.take_add_one, hx]
          simp [svs]
        generalize (⟨(prT x).toArray⟩ : ByteArray) = z at *
        clear hlt hx hg0 hg1 f0
        as_aux_lemma =>
          go_upto_region 10 with fail
          have KT := Lib.hid fun w' (hb : Below wr.heap.size wr w') => (q_cells (kept_obj hb QJ.out)).2
          go_region_law (first
            | (go_simp; go_at_call 9; refine (CP.out _ ?_).mono ?_; (· repeat (first | exact Below.refl _ _ | refine bel_drew ?_)); rintro y w8 ⟨rfl, b8⟩; have X1 : Below wr.heap.size wr w8 := (by refine bel_trans ?_ b8; repeat (first | exact Below.refl _ _ | refine bel_drew ?_)); have t8 := KT.out _ X1; have t9 := fun o => KT.out _ (bel_alloc X1 o))
            | (refine step_append_two _ rfl _ _ 30 rfl (w3.heap.size + 1) (w3.heap.size + 1) 9 i0 (.string ⟨#[]⟩) 16 Tryz.underlying30 HI0.out.1 HI0.out.2.1 HI0.out.2.2.1 HI0.out.2.2.2 rfl _ j _ rfl ((own_below OJ.out X1).alloc _) _ 1 [.string z] rfl (World.ownsRow_lit (base := w3.heap.size + 1) (e := 9) (size := 1) w8 #[.string z] 1 (Nat.le_trans PB.out X1.size) (by decide) rfl) (by intro u hu; obtain rfl := List.mem_singleton.1 hu; rfl) (by have := MX.out; have := HLT.out; unfold maxLen; omega) (by have := MX.out; have := HLT.out; omega) (by simp; have := PB.out; have := X1.size; omega) ?_; intro v' w10 own' hgrow; obtain ⟨D1, e1, rfl, -⟩ := own_slice own'; have Q10 := (hgrow.block _ (Nat.lt_of_lt_of_le (Array.getElem?_eq_some_iff.1 (kept_obj X1 QJ.out)).1 (by simp)) (fun e => by have := ((own_below OJ.out X1).lt _ e.symm).1; omega)).trans ((heap_alloc_old w8 _ (Array.getElem?_eq_some_iff.1 (kept_obj X1 QJ.out)).1).trans (kept_obj X1 QJ.out)); have B10 := (bel_alloc (bel_trans BJ.out X1) (.cells #[.string z] 9 (0, 0))).grown hgrow (bel_alloc (bel_trans BJ.out X1) (.cells #[.string z] 9 (0, 0))).size (fun g e => Nat.le_of_succ_le ((own_below OJ.out X1).lt g e).1); have t10 := (q_cells Q10).2; have f10 := frozen_obj Q10 1))
          all_goals
            have R1 := Lib.hid (q_set (TA' := D1) (j' := j + 1) (tc' := e1) Q10)
            have R2 := Lib.hid (own_set own' (Nat.lt_succ_self w3.heap.size) (j := 1) (.slice D1 (j + 1) e1))
            have R3 := Lib.hid (bel_set B10 (p := ⟨w3.heap.size, 1, none⟩) (Nat.le_refl _) (.slice D1 (j + 1) e1))
            clear Q10 B10 own' hgrow t10 f10
            go_wp2_with fail
            go_roundg (m - (j + 1))
            case measure => have := HJ.out; have := HLT.out; omega
            case rel => exact ⟨j + 1, D1, e1, by go_num, ⟨rfl, HLT.out⟩, R1.out, by have h := R2.out; rw [TK.out] at h; exact h, R3.out⟩
      · obtain rfl : j = m := by have := HJ.out; omega
        generalize wr = wq at *
        have z0 : ¬ (j : Int) < (j : Int) := by omega
        have OT : Hid (wq.ownsRow (w3.heap.size + 1) 9 1 (.slice TA j tc) j (svs l)) := by
          have h := OJ.out
          rw [List.take_of_length_le (by rw [HMM.out]; exact Nat.le_refl _)] at h
          exact h
        have QP : Hid (wq.heap[w3.heap.size]? = some (rO ⟨A, cc, TA, tc, l⟩)) := by
          show _ = some (Obj.cells #[.slice A l.length cc, .slice TA l.length tc] 32 (0, 0))
          rw [HMM.out]
          exact QJ.out
        have OW := own_below OF.out BJ.out
        have PI : Hid (Prn.In wq.heap.size wq ⟨A, cc, TA, tc, l⟩) := by
          refine ⟨?_, ?_, ?_, fun i x hx => ?_, fun i x hx => ?_⟩
          · show l.length ≤ _
            have := HMM.out
            have := MX.out
            omega
          · show l.length ≤ cc
            rw [HMM.out]
            exact own_cap OW
          · show l.length ≤ tc
            rw [HMM.out]
            exact own_cap OT.out
          · obtain ⟨g, h1, -, h2, h3⟩ := own_cells OW (i := i) (v := .int .u64 x) (by unfold fvs; rw [List.getElem?_map, show l[i]? = some x from hx]; rfl)
            exact ⟨g, 0, h1, h2, by rw [Nat.zero_add]; exact h3⟩
          · obtain ⟨g, h1, -, h2, h3⟩ := own_cells OT.out (i := i) (v := .string ⟨(prT x).toArray⟩) (by unfold svs; rw [List.getElem?_map, show l[i]? = some x from hx]; rfl)
            exact ⟨g, 0, h1, h2, by rw [Nat.zero_add]; exact h3⟩
        have BQ := Lib.hid (bel_trans B3.out BJ.out)
        have GQ := Lib.hid (kept_obj BJ.out G3.out)
        obtain ⟨-, -, -, a3⟩ := p_cells GQ.out
        dsimp only at a3
        have FE : Hid (∀ x ∈ Pr.fls ⟨tk, ⟨ao0, n0, c0'⟩, k, is, ki, ⟨ao, n, c⟩, ks⟩, x ∈ l) := fun x hx => by rw [← HLL.out]; exact hx
        clear OW OT OJ QJ OF hlt
        as_aux_lemma =>
          go_wp2_with fail
          clear t0 t1 a3
          go_loopg [6] n (fun gk i wr => ∃ q : Nat, i = .int .i64 (q : Int) ∧ Hid (gk = n - q ∧ q ≤ n) ∧ Hid (Below wq.heap.size wq wr))
          case atStart => exact ⟨0, rfl, ⟨rfl, Nat.zero_le _⟩, Below.refl _ _⟩
          case round =>
            obtain ⟨q, rfl, HQ, BX⟩ := hrel
            have GX := Lib.hid (kept_obj BX.out GQ.out)
            have QX := Lib.hid (kept_obj BX.out QP.out)
            have BEL := Lib.hid (bel_trans BQ.out BX.out)
            have PX := Lib.hid (PI.out.below BX.out (Nat.le_refl _))
            obtain ⟨a0, a1, a2, a3⟩ := p_cells GX.out
            dsimp only at a0 a1 a2 a3
            by_cases hlt : q < n
            · have z3 : (q : Int) < (n : Int) := by omega
              have ovi : IntKind.i64.wrap ((q : Int) + 1) = ((q + 1 : Nat) : Int) := by have := HM.out; rw [IntKind.wrap_i64]; omega
              obtain ⟨a, b, o, rfl, hA, hb, XA, I⟩ := SsIn.at (KS.out.below BEL.out (Nat.le_refl _)) (i := q) hlt
              have HLT := Lib.hid hlt
              have WE : Hid ((ks q).e.wt ≤ 1500) := by
                show _ ≤ _
                have h1 := P1.out
                unfold Pr.wt at h1
                have h2 := sm_one (f := fun i => (ks i).wt) hlt
                have h3 := St.wt_eq (ks q)
                dsimp only at h1
                omega
              have FX : Hid (∀ x ∈ (ks q).e.fls, x ∈ l) := fun x hx => FE.out x (by
                have h1 : x ∈ cat (fun i => (ks i).fls) n := mem_cat.2 ⟨q, hlt, by rw [St.fls_eq]; simp [hx]⟩
                unfold Pr.fls
                simp [h1])
              have IE := Lib.hid (I.ex.mono (w' := wr) (fun _ _ => rfl) BQ.out.size)
              have KG := Lib.hid fun w' (hb : Below wr.heap.size wr w') => And.intro (cell_kept hb a3) (And.intro (r_cells (kept_obj hb QX.out)) (And.intro (cell_kept hb XA.c4) (And.intro (cell_kept hb XA.c5) (And.intro (cell_kept hb XA.c6) (And.intro (cell_kept hb XA.c7) (And.intro (cell_kept hb XA.c8) (And.intro (cell_kept hb XA.c9) (cell_kept hb XA.c10))))))))
              dsimp only at KG
              have TJ := Lib.hid fun w' (hb : Below wr.heap.size wr w') => tText_any (ks q).e w.heap.size w' (I.ex.below hb BEL.out.size) (bel_trans BEL.out hb).size (HE.out.below (bel_trans BEL.out hb)) (HS.out.below (bel_trans BEL.out hb)) (by have h1 := Ex.txt_len _ _ _ I.ex; have h2 := WE.out; omega)
              have RJ := Lib.hid fun w' (hb : Below wr.heap.size wr w') => gText_any wq.heap.size ⟨A, cc, TA, tc, l⟩ (ks q).e w' (IE.out.below hb BX.out.size) (PX.out.below hb BX.out.size) (bel_trans BX.out hb).size FX.out (by have h2 := WE.out; omega)
              generalize (⟨((ks q).e.txt prT).toArray⟩ : ByteArray) = z at *
              clear XA hb I hlt a0 a1 a2
              as_aux_lemma =>
                go_upto_region 14 with fail
                clear a3
                go_region_held3 (fun w' => w'.cell? ⟨w.heap.size, 3, none⟩ = some (.slice (some a) n c) ∧ (w'.cell? ⟨w3.heap.size, 0, none⟩ = some (.slice A l.length cc) ∧ w'.cell? ⟨w3.heap.size, 1, none⟩ = some (.slice TA l.length tc)) ∧ w'.cell? ⟨b, o + 4, none⟩ = some (.int .u8 (ks q).e.h.op) ∧ w'.cell? ⟨b, o + 5, none⟩ = some (.int .i64 (ks q).e.h.ps) ∧ w'.cell? ⟨b, o + 6, none⟩ = some (.bool (ks q).e.h.bo) ∧ w'.cell? ⟨b, o + 7, none⟩ = some (.int .i32 (ks q).e.h.it) ∧ w'.cell? ⟨b, o + 8, none⟩ = some (.int .u64 (ks q).e.h.fl) ∧ w'.cell? ⟨b, o + 9, none⟩ = some (.string ⟨(ks q).e.h.nm.toArray⟩) ∧ w'.cell? ⟨b, o + 10, none⟩ = some (.slice (ks q).e.h.s.ao (ks q).e.h.s.n (ks q).e.h.s.c))
                  (first | (refine KG.out _ ?_; (repeat (first | exact Below.refl _ _ | exact X2 | exact X1 | refine bel_drew ?_)); done))
                  (first
                    | (go_at_call 10; refine (TJ.out _ ?_).mono ?_; (· repeat (first | exact Below.refl _ _ | refine bel_drew ?_)); rintro y w8 ⟨rfl, b8⟩; have X1 : Below wr.heap.size wr w8 := (by refine bel_trans ?_ b8; repeat (first | exact Below.refl _ _ | refine bel_drew ?_)))
                    | (go_at_call 11; refine (RJ.out _ ?_).mono ?_; (· repeat (first | exact X1 | refine bel_drew ?_)); rintro y w9 ⟨rfl, b9⟩; have X2 : Below wr.heap.size wr w9 := (by refine bel_trans ?_ b9; repeat (first | exact X1 | refine bel_drew ?_))))
                all_goals
                  have BZ := Lib.hid (bel_trans BX.out X2)
                  clear X1 X2 KG TJ RJ
                  go_wp2_with fail
                  go_roundg (n - (q + 1))
                  case measure => have := HQ.out; have := HLT.out; omega
                  case rel => exact ⟨q + 1, by go_num, ⟨rfl, HLT.out⟩, BZ.out⟩
            · have z3 : ¬ (q : Int) < (n : Int) := by omega
              have KG := Lib.hid fun w' (hb : Below wr.heap.size wr w') => And.intro (p_cells (kept_obj hb GX.out)) (r_cells (kept_obj hb QX.out))
              dsimp only at KG
              have TJ := Lib.hid fun w' (hb : Below wr.heap.size wr w') => tPrint_any ⟨tk, ⟨ao0, n0, c0'⟩, k, is, ki, ⟨ao, n, c⟩, ks⟩ w' ((IP.out.below (bel_trans BEL.out hb) (Nat.le_refl _)).mono' (bel_trans BEL.out hb).size) (HE.out.below (bel_trans BEL.out hb)) (HS.out.below (bel_trans BEL.out hb)) (by have := P1.out; omega) (Pr.txt_len _ _ _ IP.out P1.out)
              have RJ := Lib.hid fun w' (hb : Below wr.heap.size wr w') => gPrint_any wq.heap.size ⟨A, cc, TA, tc, l⟩ ⟨tk, ⟨ao0, n0, c0'⟩, k, is, ki, ⟨ao, n, c⟩, ks⟩ w' ((IP.out.below (bel_trans BEL.out hb) (Nat.le_refl _)).mono' BQ.out.size) (PX.out.below hb BX.out.size) (bel_trans BX.out hb).size FE.out P1.out
              generalize (⟨(Pr.txt prT ⟨tk, ⟨ao0, n0, c0'⟩, k, is, ki, ⟨ao, n, c⟩, ks⟩).toArray⟩ : ByteArray) = z at *
              clear hlt
              as_aux_lemma =>
                go_upto_region 16 with fail
                clear a0 a1 a2 a3
                go_region_held3 (fun w' => (w'.cell? ⟨w.heap.size, 0, none⟩ = some (.int .i64 tk) ∧ w'.cell? ⟨w.heap.size, 1, none⟩ = some (.slice ao0 n0 c0') ∧ w'.cell? ⟨w.heap.size, 2, none⟩ = some (.slice is.ao is.n is.c) ∧ w'.cell? ⟨w.heap.size, 3, none⟩ = some (.slice ao n c)) ∧ w'.cell? ⟨w3.heap.size, 0, none⟩ = some (.slice A l.length cc) ∧ w'.cell? ⟨w3.heap.size, 1, none⟩ = some (.slice TA l.length tc))
                  (first | (refine KG.out _ ?_; (repeat (first | exact Below.refl _ _ | exact X2 | exact X1 | refine bel_drew ?_)); done))
                  (first
                    | (go_at_call 12; refine (TJ.out _ ?_).mono ?_; (· repeat (first | exact Below.refl _ _ | refine bel_drew ?_)); rintro y w8 ⟨rfl, b8⟩; have X1 : Below wr.heap.size wr w8 := (by refine bel_trans ?_ b8; repeat (first | exact Below.refl _ _ | refine bel_drew ?_)))
                    | (go_at_call 13; refine (RJ.out _ ?_).mono ?_; (· repeat (first | exact X1 | refine bel_drew ?_)); rintro y w9 ⟨rfl, b9⟩; have X2 : Below wr.heap.size wr w9 := (by refine bel_trans ?_ b9; repeat (first | exact X1 | refine bel_drew ?_))))
                all_goals
                  have BZ := Lib.hid (bel_trans BEL.out X2)
                  clear X1 X2 KG TJ RJ
                  go_wp2_with fail
                  go_ret
                  exact ⟨by simp, BZ.out⟩
  · have z1 : (1500 : Int) < (n1 : Int) := by omega
    clear h1
    go_wp2_with fail
    go_ret
    exact ⟨rfl, B2.out⟩
theorem lprints10_card (p : Pr) (w : World) (hp : p.In w.heap.size w) (hE : EnvOk w ∧ SgOk w) :
    Calls Tryz.prog 3 #[p.v] w fun x w' => x = .returned (.bool true) ∧ Below w.heap.size w w' := lprints10_walk p w hp hE.1 hE.2
end Go.Proofs.YtgjgcehoakacoaaGreatDoor
