/-
  The walk of RatioMost: for every slice of fractions the law answers true, and nothing that was there has changed. Condition: the table of math/bits stands in its variable.
-/
import Derived.Test.YtaollppieonmbaaDoorQin
namespace Go.Proofs.YtaollppieonmbaaDoor
open Go.RowKit
set_option maxRecDepth 100000

/-- The fractions that were handed in have values. -/
theorem all_rv {w : World} {es : List RW} (h : ∀ e ∈ es, NatIn w e.A e.n e.c ∧ NatIn w e.B e.m e.d) (hs : smallR es = true) : ∃ f, AllR w (es.map RW.v) 4 f := by
  have key : ∀ i : Nat, ∃ r : Rat, ∀ v, (es.map RW.v)[i]? = some v → RV w v.1 v.2.1 v.2.2 4 r := by
    intro i
    cases he : es[i]? with
    | none => exact ⟨0, fun v hv => by rw [List.getElem?_map, he] at hv; cases hv⟩
    | some e =>
      have hm := List.mem_of_getElem? he
      obtain ⟨h1, h2⟩ := h e hm
      have h3 := List.all_eq_true.1 hs e hm
      simp only [Bool.and_eq_true, decide_eq_true_eq] at h3
      obtain ⟨r, hr⟩ := in_rv (L := 4) e.s h1 h2 h3.1 h3.2
      refine ⟨r, fun v hv => ?_⟩
      rw [List.getElem?_map, he] at hv
      obtain rfl := Option.some.inj hv
      exact hr
  obtain ⟨f, hf⟩ := Classical.axiomOfChoice key
  exact ⟨f, fun i v hv => hf i v hv⟩
theorem cmp_turn (a b : Rat) : -cmpR b a = cmpR a b := by
  rcases cmp_cases a b with h | h | h
  · rw [h, cmp_gt.2 (cmp_lt.1 h)]
  · rw [h, cmp_eq.2 (cmp_eq.1 h).symm]; rfl
  · rw [h, cmp_lt.2 (cmp_gt.1 h)]; rfl
theorem cmp_neg {a b : Rat} : cmpR a b < 0 ↔ a < b := by
  rw [← cmp_lt]
  rcases cmp_cases a b with h | h | h <;> rw [h] <;> decide
theorem cmp_nn {a b : Rat} (h : b ≤ a) : 0 ≤ cmpR a b := by
  rcases Int.lt_or_le (cmpR a b) 0 with h1 | h1
  · exact absurd h (Rat.not_le.2 (cmp_neg.1 h1))
  · exact h1
theorem RV.form3 {w : World} {v : Value × Value × Value} {L : Nat} {r : Rat} (h : RV w v.1 v.2.1 v.2.2 L r) : ∃ s A n c B m d, v = (.bool s, .slice A n c, .slice B m d) := by
  obtain ⟨s, A, n, c, B, m, d, h1, h2, h3⟩ := h.form
  exact ⟨s, A, n, c, B, m, d, Prod.ext h1 (Prod.ext h2 h3)⟩

set_option maxHeartbeats 40000000 in
theorem rmost_walk (A : Option Addr) (c : Nat) (es : List RW) (w : World) (hc : es.length ≤ c) (hr : RdR w A (es.map RW.v)) (hi : ∀ e ∈ es, NatIn w e.A e.n e.c ∧ NatIn w e.B e.m e.d) (hT : TabOk w) :
    Calls Tryd.prog 8 #[.slice A es.length c] w fun e w' => e = .returned (.bool true) ∧ Below w.heap.size w w' := by
  obtain ⟨n, hn⟩ : ∃ n, es.length = n := ⟨_, rfl⟩
  rw [hn] at hc ⊢
  have HN := Lib.hid hn
  clear hn
  go_enter Tryd.func8, Tryd.ntmps8
  go_wp2_with fail
  refine (works3 w hT).mono ?_
  rintro e W1 ⟨rfl, hb1⟩
  have H1 := Lib.hid hb1
  have hr1 := hr.below hb1
  clear hb1 hr
  by_cases h8 : 8 < n
  · have h8' : (8 : Int) < (n : Int) := by omega
    go_wp2_with fail
    go_ret
    exact ⟨rfl, H1.out⟩
  have h8' : ¬ (8 : Int) < (n : Int) := by omega
  go_wp2_with fail
  refine (smallR_any A n c es HN.out (by omega) W1 hr1).mono ?_
  rintro e W2 ⟨rfl, rfl⟩
  by_cases hs : smallR es = true
  case neg =>
    rw [Bool.eq_false_iff.2 hs]
    go_wp2_with fail
    go_ret
    exact ⟨rfl, H1.out⟩
  case pos =>
    obtain ⟨f, hf0⟩ := all_rv hi hs
    rw [hs]
    have hf := hf0.below H1.out
    have T1 := hT.below H1.out
    clear hf0 hi hs hT
    by_cases hn0 : n = 0
    · subst hn0
      go_wp2_with fail
      refine (max_none A c _).mono ?_
      rintro e w3 ⟨x3, y3, z3, r3, rfl, hb3⟩
      obtain ⟨sm, Am, nm, cm, Bm, mm, dm, rfl, rfl, rfl⟩ := r3.form
      have r4 := r3.below (bel_alloc (Below.refl w3.heap.size w3) (.cells #[.bool sm, .slice Am nm cm, .slice Bm mm dm] 25))
      have H3 := Lib.hid (bel_alloc (bel_trans H1.out hb3) (.cells #[.bool sm, .slice Am nm cm, .slice Bm mm dm] 25))
      clear hb3 H1 r3
      go_wp2_with fail
      refine (sign_any r4.v (by decide)).mono ?_
      rw [show sgn 0 = 0 by rfl]
      rintro e w5 ⟨rfl, hb5⟩
      go_wp2_with fail
      go_ret
      exact ⟨rfl, bel_trans H3.out hb5⟩
    · obtain ⟨g, off, rfl⟩ : ∃ g off, A = some ⟨g, off, none⟩ := by
        rcases hr1 with h | ⟨g, off, e, _⟩
        · exfalso
          have h2 := congrArg List.length h
          simp at h2
          subst h2
          exact hn0 HN.out.symm
        · exact ⟨g, off, e⟩
      have hln : (es.map RW.v).length = n := by rw [List.length_map]; exact HN.out
      have HLN := Lib.hid hln
      have hnb : ((n : Int) == 0) = false := by simp; omega
      have h0n : (0 : Int) < (n : Int) := by omega
      generalize es.map RW.v = vs at *
      clear hln HN
      go_wp2_with fail
      refine (max_any HLN.out (by omega) (by omega) hc hr1 hf (by decide) (by decide) T1).mono ?_
      rintro e w3 ⟨km, hkm, ⟨x3, y3, z3, r3, rfl, hb3⟩, hmx⟩
      obtain ⟨sm, Am, nm, cm, Bm, mm, dm, rfl, rfl, rfl⟩ := r3.form
      have b4 := bel_alloc hb3 (.cells #[.bool sm, .slice Am nm cm, .slice Bm mm dm] 25)
      have rm := r3.below (bel_alloc (Below.refl w3.heap.size w3) (.cells #[.bool sm, .slice Am nm cm, .slice Bm mm dm] 25))
      have Km := Blk.new w3 25 #[.bool sm, .slice Am nm cm, .slice Bm mm dm]
      have hr4 := hr1.below b4
      have hf4 := hf.below b4
      have H4 := Lib.hid (bel_trans H1.out b4)
      have MX := Lib.hid hmx
      clear hb3 H1 r3 b4 hr1 hf hmx T1
      obtain ⟨gm, hgm⟩ : ∃ gm, gm = w3.heap.size := ⟨_, rfl⟩
      obtain ⟨W, hW⟩ : ∃ W, W = w3.alloc (.cells #[.bool sm, .slice Am nm cm, .slice Bm mm dm] 25) := ⟨_, rfl⟩
      have GM := Lib.hid hgm
      have VW := Lib.hid hW
      rw [← hW] at rm Km hr4 hf4 H4
      rw [← hgm] at Km
      clear hgm hW
      go_wp2_with fail
      rw [← GM.out, ← VW.out]
      clear GM VW
      go_loopw [6, 7] (fun s6 s7 wr => ∃ (i : Nat) (th : Bool), s6 = .bool th ∧ s7 = .int .i64 (i : Int) ∧ i ≤ n ∧ Hid (∀ j, j < i → f j = f km → th = true) ∧ Hid (Below W.heap.size W wr)) (fun _ s7 _ => n - (intOf s7).toNat)
      case atStart => exact ⟨0, false, rfl, rfl, Nat.zero_le _, fun j hj => by omega, Below.refl _ _⟩
      case round =>
        obtain ⟨i, th, rfl, rfl, hin, TH, HB⟩ := hrel
        by_cases hlt : i < n
        · obtain ⟨vi, hvi⟩ : ∃ v, vs[i]? = some v := ⟨_, List.getElem?_eq_getElem (by rw [HLN.out]; exact hlt)⟩
          have ri := (hf4 i vi hvi).below HB.out
          obtain ⟨si, Ai, ni, ci, Bi, mi, di, rfl⟩ := ri.form3
          simp only at ri
          obtain ⟨a0, a1, a2⟩ := (hr4.below HB.out).at_ hvi
          simp only at a0 a1 a2
          have rm1 := rm.below HB.out
          obtain ⟨m0, m1, m2, -, -, -⟩ := (Km.below HB.out Km.lt).three
          have hi0 : (0 : Int) ≤ (i : Int) := by omega
          have hil : (i : Int) < (n : Int) := by omega
          have HVI := Lib.hid hvi
          clear hvi
          obtain ⟨cc, hcc⟩ : ∃ cc, cmpR (f km) (f i) = cc := ⟨_, rfl⟩
          have hge : 0 ≤ cc := by rw [← hcc]; exact cmp_nn (MX.out i hlt)
          have TH2 : Hid (∀ j, j < i + 1 → f j = f km → (th || cc == 0) = true) := by
            intro j hj he
            rcases Nat.lt_or_ge j i with h | h
            · rw [TH.out j h he]; rfl
            · obtain rfl : j = i := by omega
              rw [← hcc, cmp_eq.2 he.symm]
              simp
          have HCC := Lib.hid hcc
          clear hcc TH
          have HK : Hid (∀ w', Below wr.heap.size wr w' → w'.cell? ⟨g, off + i * 3, none⟩ = some (.bool si) ∧ w'.cell? ⟨g, off + i * 3 + 1, none⟩ = some (.slice Ai ni ci) ∧ w'.cell? ⟨g, off + i * 3 + 2, none⟩ = some (.slice Bi mi di) ∧ w'.cell? ⟨gm, 0, none⟩ = some (.bool sm) ∧ w'.cell? ⟨gm, 1, none⟩ = some (.slice Am nm cm) ∧ w'.cell? ⟨gm, 2, none⟩ = some (.slice Bm mm dm)) := fun w' hb => kps6 hb a0 a1 a2 m0 m1 m2
          clear a0 a1 a2 m0 m1 m2
          go_upto_region 16 with fail
          refine region_plan (S := fun w' => w'.cell? ⟨g, off + i * 3, none⟩ = some (.bool si) ∧ w'.cell? ⟨g, off + i * 3 + 1, none⟩ = some (.slice Ai ni ci) ∧ w'.cell? ⟨g, off + i * 3 + 2, none⟩ = some (.slice Bi mi di) ∧ w'.cell? ⟨gm, 0, none⟩ = some (.bool sm) ∧ w'.cell? ⟨gm, 1, none⟩ = some (.slice Am nm cm) ∧ w'.cell? ⟨gm, 2, none⟩ = some (.slice Bm mm dm)) _ [(0, true), (1, true), (2, true), (3, true), (4, true), (5, false), (6, true)] (by kernel_rfl) (by kernel_rfl) rfl (by kernel_rfl) (by kernel_rfl) (fun _ _ d _ _ h => by cases d <;> exact h) (HK.out _ (bel_drew (Below.refl _ _))) ?_
          refine Walk.take (v := ?_) rfl (by rfl) ?_ ?_
          rotate_left
          · (intro w' hSw; (try dsimp only at hSw); go_simp <;> with_reducible rfl)
          try simp only [Act.put, List.setIfInBounds_toArray, List.set_cons_zero, List.set_cons_succ]
          refine Walk.take (v := ?_) rfl (by rfl) ?_ ?_
          rotate_left
          · (intro w' hSw; (try dsimp only at hSw); go_simp <;> with_reducible rfl)
          try simp only [Act.put, List.setIfInBounds_toArray, List.set_cons_zero, List.set_cons_succ]
          refine Walk.take (v := ?_) rfl (by rfl) ?_ ?_
          rotate_left
          · (intro w' hSw; (try dsimp only at hSw); go_simp <;> with_reducible rfl)
          try simp only [Act.put, List.setIfInBounds_toArray, List.set_cons_zero, List.set_cons_succ]
          refine Walk.take (v := ?_) rfl (by rfl) ?_ ?_
          rotate_left
          · (intro w' hSw; (try dsimp only at hSw); go_simp <;> with_reducible rfl)
          try simp only [Act.put, List.setIfInBounds_toArray, List.set_cons_zero, List.set_cons_succ]
          refine Walk.take (v := ?_) rfl (by rfl) ?_ ?_
          rotate_left
          · (intro w' hSw; (try dsimp only at hSw); go_simp <;> with_reducible rfl)
          try simp only [Act.put, List.setIfInBounds_toArray, List.set_cons_zero, List.set_cons_succ]
          refine Walk.act rfl (by rfl) (fun K hK => ?_)
          go_simp
          go_at_call 25
          refine (qcmp_any (w := wr.drew) (rm1.below (bel_drew (Below.refl _ _))).v (ri.below (bel_drew (Below.refl _ _))) (by decide) (by decide)).mono ?_
          rw [HCC.out]
          rintro e t1 ⟨rfl, hb1⟩
          have X1 : Below wr.heap.size wr t1 := bel_trans (bel_drew (Below.refl _ _)) hb1
          refine hK.out _ _ (HK.out _ X1) ?_
          clear hK K
          try simp only [Act.put, List.setIfInBounds_toArray, List.set_cons_zero, List.set_cons_succ]
          refine Walk.take (v := ?_) rfl (by rfl) ?_ ?_
          rotate_left
          · (intro w' hSw; (try dsimp only at hSw); go_simp <;> with_reducible rfl)
          try simp only [Act.put, List.setIfInBounds_toArray, List.set_cons_zero, List.set_cons_succ]
          refine Walk.done ?_
          clear HK rm1 ri
          have HB1 := Lib.hid (bel_trans HB.out X1)
          clear HB X1 hb1
          have hnl : ¬ cc < 0 := by omega
          cases th
          · have TH3 : Hid (∀ j, j < i + 1 → f j = f km → (cc == 0) = true) := fun j h1 h2 => by have := TH2.out j h1 h2; simpa using this
            clear TH2
            go_wp2_with fail
            go_loopw [9] (fun s9 wq => ∃ k : Nat, s9 = .int .i64 (k : Int) ∧ k ≤ n ∧ Hid (Below W.heap.size W wq)) (fun s9 _ => n - (intOf s9).toNat)
            case atStart => exact ⟨0, rfl, Nat.zero_le _, HB1⟩
            case round =>
              clear HB1
              obtain ⟨k, rfl, hkn, HB⟩ := hrel
              by_cases hk : k < n
              · obtain ⟨vy, hvy⟩ : ∃ v, vs[i]? = some v := ⟨_, List.getElem?_eq_getElem (by rw [HLN.out]; omega)⟩
                have ry := (hf4 i vy hvy).below HB.out
                obtain ⟨sy, Ay, ny, cy, By, my, dy, rfl⟩ := ry.form3
                simp only at ry
                obtain ⟨y0, y1, y2⟩ := (hr4.below HB.out).at_ hvy
                simp only at y0 y1 y2
                clear hvy
                obtain ⟨vx, hvx⟩ : ∃ v, vs[k]? = some v := ⟨_, List.getElem?_eq_getElem (by rw [HLN.out]; omega)⟩
                have rx := (hf4 k vx hvx).below HB.out
                obtain ⟨sx, Ax, nx, cx, Bx, mx, dx, rfl⟩ := rx.form3
                simp only at rx
                obtain ⟨x0, x1, x2⟩ := (hr4.below HB.out).at_ hvx
                simp only at x0 x1 x2
                clear hvx
                obtain ⟨vz, hvz⟩ : ∃ v, vs[0]? = some v := ⟨_, List.getElem?_eq_getElem (by rw [HLN.out]; omega)⟩
                have rz := (hf4 0 vz hvz).below HB.out
                obtain ⟨sz, Az, nz, cz, Bz, mz, dz, rfl⟩ := rz.form3
                simp only at rz
                obtain ⟨z0, z1, z2⟩ := (hr4.below HB.out).at_ hvz
                simp only [Nat.zero_mul, Nat.add_zero] at z0 z1 z2
                clear hvz
                have hk0 : (0 : Int) ≤ (k : Int) := by omega
                have hkl : (k : Int) < (n : Int) := by omega
                have hnp : 0 < n := by omega
                have HK : Hid (∀ w', Below wr.heap.size wr w' → w'.cell? ⟨g, off + i * 3, none⟩ = some (.bool sy) ∧ w'.cell? ⟨g, off + i * 3 + 1, none⟩ = some (.slice Ay ny cy) ∧ w'.cell? ⟨g, off + i * 3 + 2, none⟩ = some (.slice By my dy) ∧ w'.cell? ⟨g, off + k * 3, none⟩ = some (.bool sx) ∧ w'.cell? ⟨g, off + k * 3 + 1, none⟩ = some (.slice Ax nx cx) ∧ w'.cell? ⟨g, off + k * 3 + 2, none⟩ = some (.slice Bx mx dx) ∧ w'.cell? ⟨g, off, none⟩ = some (.bool sz) ∧ w'.cell? ⟨g, off + 1, none⟩ = some (.slice Az nz cz) ∧ w'.cell? ⟨g, off + 2, none⟩ = some (.slice Bz mz dz)) := fun w' hb => kps9 hb y0 y1 y2 x0 x1 x2 z0 z1 z2
                clear y0 y1 y2 x0 x1 x2 z0 z1 z2
                have tn := cmp_turn (f i) (f k)
                have bd := cmp_bd (f k) (f i)
                have l1 := cmp_neg (a := f i) (b := f k)
                have l3 := cmp_neg (a := f 0) (b := f i)
                have l4 := cmp_neg (a := f 0) (b := f k)
                obtain ⟨c1, e1⟩ : ∃ c, cmpR (f i) (f k) = c := ⟨_, rfl⟩
                obtain ⟨c2, e2⟩ : ∃ c, cmpR (f k) (f i) = c := ⟨_, rfl⟩
                obtain ⟨c3, e3⟩ : ∃ c, cmpR (f 0) (f i) = c := ⟨_, rfl⟩
                obtain ⟨c4, e4⟩ : ∃ c, cmpR (f 0) (f k) = c := ⟨_, rfl⟩
                rw [e1, e2] at tn
                rw [e2] at bd
                rw [e1] at l1
                rw [e3] at l3
                rw [e4] at l4
                have E1 := Lib.hid e1
                have E2 := Lib.hid e2
                have E3 := Lib.hid e3
                have E4 := Lib.hid e4
                have WN : IntKind.i64.wrap (-c2) = c1 := by rw [wrap_in (by omega) (by omega)]; exact tn
                clear e1 e2 e3 e4 tn bd
                by_cases g1 : c1 < 0
                · by_cases g3 : c3 < 0
                  · have g4 : c4 < 0 := l4.2 (rat_lt_trans (l3.1 g3) (l1.1 g1))
                    have d4 : decide (0 ≤ c4) = false := decide_eq_false (by omega)
                    clear l1 l3 l4
                    go_upto_region 23 with fail
                    refine region_plan (S := fun w' => w'.cell? ⟨g, off + i * 3, none⟩ = some (.bool sy) ∧ w'.cell? ⟨g, off + i * 3 + 1, none⟩ = some (.slice Ay ny cy) ∧ w'.cell? ⟨g, off + i * 3 + 2, none⟩ = some (.slice By my dy) ∧ w'.cell? ⟨g, off + k * 3, none⟩ = some (.bool sx) ∧ w'.cell? ⟨g, off + k * 3 + 1, none⟩ = some (.slice Ax nx cx) ∧ w'.cell? ⟨g, off + k * 3 + 2, none⟩ = some (.slice Bx mx dx) ∧ w'.cell? ⟨g, off, none⟩ = some (.bool sz) ∧ w'.cell? ⟨g, off + 1, none⟩ = some (.slice Az nz cz) ∧ w'.cell? ⟨g, off + 2, none⟩ = some (.slice Bz mz dz)) _ [(0, true), (1, true), (2, true), (3, true), (4, true), (5, true), (6, true), (7, true), (9, true), (10, true), (11, true), (12, true), (13, true), (14, true), (15, true), (16, true), (8, false), (17, false), (18, true), (19, true), (20, true), (21, true), (22, true), (23, true), (24, true), (25, true), (26, true), (27, true), (28, true), (29, false), (30, true), (31, true), (32, true), (33, true), (34, true), (35, true), (36, true), (37, true), (38, true), (39, false), (40, true), (41, true), (42, true), (43, true), (44, true), (45, true), (46, true), (47, true), (48, true), (49, true), (50, false), (51, true), (52, true), (53, true)] (by kernel_rfl) (by kernel_rfl) rfl (by kernel_rfl) (by kernel_rfl) (fun _ _ d _ _ h => by cases d <;> exact h) (HK.out _ (bel_drew (Below.refl _ _))) ?_
                    refine Walk.take (v := ?_) rfl (by rfl) ?_ ?_
                    rotate_left
                    · (intro w' hSw; (try dsimp only at hSw); go_simp <;> with_reducible rfl)
                    try simp only [Act.put, List.setIfInBounds_toArray, List.set_cons_zero, List.set_cons_succ]
                    refine Walk.take (v := ?_) rfl (by rfl) ?_ ?_
                    rotate_left
                    · (intro w' hSw; (try dsimp only at hSw); go_simp <;> with_reducible rfl)
                    try simp only [Act.put, List.setIfInBounds_toArray, List.set_cons_zero, List.set_cons_succ]
                    refine Walk.take (v := ?_) rfl (by rfl) ?_ ?_
                    rotate_left
                    · (intro w' hSw; (try dsimp only at hSw); go_simp <;> with_reducible rfl)
                    try simp only [Act.put, List.setIfInBounds_toArray, List.set_cons_zero, List.set_cons_succ]
                    refine Walk.take (v := ?_) rfl (by rfl) ?_ ?_
                    rotate_left
                    · (intro w' hSw; (try dsimp only at hSw); go_simp <;> with_reducible rfl)
                    try simp only [Act.put, List.setIfInBounds_toArray, List.set_cons_zero, List.set_cons_succ]
                    refine Walk.take (v := ?_) rfl (by rfl) ?_ ?_
                    rotate_left
                    · (intro w' hSw; (try dsimp only at hSw); go_simp <;> with_reducible rfl)
                    try simp only [Act.put, List.setIfInBounds_toArray, List.set_cons_zero, List.set_cons_succ]
                    refine Walk.take (v := ?_) rfl (by rfl) ?_ ?_
                    rotate_left
                    · (intro w' hSw; (try dsimp only at hSw); go_simp <;> with_reducible rfl)
                    try simp only [Act.put, List.setIfInBounds_toArray, List.set_cons_zero, List.set_cons_succ]
                    refine Walk.take (v := ?_) rfl (by rfl) ?_ ?_
                    rotate_left
                    · (intro w' hSw; (try dsimp only at hSw); go_simp <;> with_reducible rfl)
                    try simp only [Act.put, List.setIfInBounds_toArray, List.set_cons_zero, List.set_cons_succ]
                    refine Walk.take (v := ?_) rfl (by rfl) ?_ ?_
                    rotate_left
                    · (intro w' hSw; (try dsimp only at hSw); go_simp <;> with_reducible rfl)
                    try simp only [Act.put, List.setIfInBounds_toArray, List.set_cons_zero, List.set_cons_succ]
                    refine Walk.take (v := ?_) rfl (by rfl) ?_ ?_
                    rotate_left
                    · (intro w' hSw; (try dsimp only at hSw); go_simp <;> with_reducible rfl)
                    try simp only [Act.put, List.setIfInBounds_toArray, List.set_cons_zero, List.set_cons_succ]
                    refine Walk.take (v := ?_) rfl (by rfl) ?_ ?_
                    rotate_left
                    · (intro w' hSw; (try dsimp only at hSw); go_simp <;> with_reducible rfl)
                    try simp only [Act.put, List.setIfInBounds_toArray, List.set_cons_zero, List.set_cons_succ]
                    refine Walk.take (v := ?_) rfl (by rfl) ?_ ?_
                    rotate_left
                    · (intro w' hSw; (try dsimp only at hSw); go_simp <;> with_reducible rfl)
                    try simp only [Act.put, List.setIfInBounds_toArray, List.set_cons_zero, List.set_cons_succ]
                    refine Walk.take (v := ?_) rfl (by rfl) ?_ ?_
                    rotate_left
                    · (intro w' hSw; (try dsimp only at hSw); go_simp <;> with_reducible rfl)
                    try simp only [Act.put, List.setIfInBounds_toArray, List.set_cons_zero, List.set_cons_succ]
                    refine Walk.take (v := ?_) rfl (by rfl) ?_ ?_
                    rotate_left
                    · (intro w' hSw; (try dsimp only at hSw); go_simp <;> with_reducible rfl)
                    try simp only [Act.put, List.setIfInBounds_toArray, List.set_cons_zero, List.set_cons_succ]
                    refine Walk.take (v := ?_) rfl (by rfl) ?_ ?_
                    rotate_left
                    · (intro w' hSw; (try dsimp only at hSw); go_simp <;> with_reducible rfl)
                    try simp only [Act.put, List.setIfInBounds_toArray, List.set_cons_zero, List.set_cons_succ]
                    refine Walk.take (v := ?_) rfl (by rfl) ?_ ?_
                    rotate_left
                    · (intro w' hSw; (try dsimp only at hSw); go_simp <;> with_reducible rfl)
                    try simp only [Act.put, List.setIfInBounds_toArray, List.set_cons_zero, List.set_cons_succ]
                    refine Walk.take (v := ?_) rfl (by rfl) ?_ ?_
                    rotate_left
                    · (intro w' hSw; (try dsimp only at hSw); go_simp <;> with_reducible rfl)
                    try simp only [Act.put, List.setIfInBounds_toArray, List.set_cons_zero, List.set_cons_succ]
                    refine Walk.act rfl (by rfl) (fun K hK => ?_)
                    go_simp
                    go_at_call 25
                    refine (qcmp_any (w := wr.drew) (ry.below (bel_drew (Below.refl wr.heap.size wr))) (rx.below (bel_drew (Below.refl wr.heap.size wr))) (by decide) (by decide)).mono ?_
                    rw [E1.out]
                    rintro e u1 ⟨rfl, hc1⟩
                    have Y1 : Below wr.heap.size wr u1 := bel_trans (bel_drew (Below.refl wr.heap.size wr)) hc1
                    refine hK.out _ _ (HK.out _ Y1) ?_
                    clear hK K
                    try simp only [Act.put, List.setIfInBounds_toArray, List.set_cons_zero, List.set_cons_succ]
                    refine Walk.act rfl (by rfl) (fun K hK => ?_)
                    go_simp
                    go_at_call 25
                    refine (qcmp_any (w := u1) (rx.below Y1) (ry.below Y1) (by decide) (by decide)).mono ?_
                    rw [E2.out]
                    rintro e u2 ⟨rfl, hc2⟩
                    have Y2 : Below wr.heap.size wr u2 := bel_trans Y1 hc2
                    refine hK.out _ _ (HK.out _ Y2) ?_
                    clear hK K
                    try simp only [Act.put, List.setIfInBounds_toArray, List.set_cons_zero, List.set_cons_succ]
                    refine Walk.take (v := ?_) rfl (by rfl) ?_ ?_
                    rotate_left
                    · (intro w' hSw; (try dsimp only at hSw); go_simp <;> with_reducible rfl)
                    try simp only [Act.put, List.setIfInBounds_toArray, List.set_cons_zero, List.set_cons_succ]
                    refine Walk.take (v := ?_) rfl (by rfl) ?_ ?_
                    rotate_left
                    · (intro w' hSw; (try dsimp only at hSw); go_simp <;> with_reducible rfl)
                    try simp only [Act.put, List.setIfInBounds_toArray, List.set_cons_zero, List.set_cons_succ]
                    refine Walk.take (v := ?_) rfl (by rfl) ?_ ?_
                    rotate_left
                    · (intro w' hSw; (try dsimp only at hSw); go_simp <;> with_reducible rfl)
                    try simp only [Act.put, List.setIfInBounds_toArray, List.set_cons_zero, List.set_cons_succ]
                    refine Walk.take (v := ?_) rfl (by rfl) ?_ ?_
                    rotate_left
                    · (intro w' hSw; (try dsimp only at hSw); go_simp <;> with_reducible rfl)
                    try simp only [Act.put, List.setIfInBounds_toArray, List.set_cons_zero, List.set_cons_succ]
                    refine Walk.take (v := ?_) rfl (by rfl) ?_ ?_
                    rotate_left
                    · (intro w' hSw; (try dsimp only at hSw); go_simp <;> with_reducible rfl)
                    try simp only [Act.put, List.setIfInBounds_toArray, List.set_cons_zero, List.set_cons_succ]
                    refine Walk.take (v := ?_) rfl (by rfl) ?_ ?_
                    rotate_left
                    · (intro w' hSw; (try dsimp only at hSw); go_simp <;> with_reducible rfl)
                    try simp only [Act.put, List.setIfInBounds_toArray, List.set_cons_zero, List.set_cons_succ]
                    refine Walk.take (v := ?_) rfl (by rfl) ?_ ?_
                    rotate_left
                    · (intro w' hSw; (try dsimp only at hSw); go_simp <;> with_reducible rfl)
                    try simp only [Act.put, List.setIfInBounds_toArray, List.set_cons_zero, List.set_cons_succ]
                    refine Walk.take (v := ?_) rfl (by rfl) ?_ ?_
                    rotate_left
                    · (intro w' hSw; (try dsimp only at hSw); go_simp <;> with_reducible rfl)
                    try simp only [Act.put, List.setIfInBounds_toArray, List.set_cons_zero, List.set_cons_succ]
                    refine Walk.take (v := ?_) rfl (by rfl) ?_ ?_
                    rotate_left
                    · (intro w' hSw; (try dsimp only at hSw); go_simp <;> with_reducible rfl)
                    try simp only [Act.put, List.setIfInBounds_toArray, List.set_cons_zero, List.set_cons_succ]
                    refine Walk.take (v := ?_) rfl (by rfl) ?_ ?_
                    rotate_left
                    · (intro w' hSw; (try dsimp only at hSw); go_simp <;> with_reducible rfl)
                    try simp only [Act.put, List.setIfInBounds_toArray, List.set_cons_zero, List.set_cons_succ]
                    refine Walk.take (v := ?_) rfl (by rfl) ?_ ?_
                    rotate_left
                    · (intro w' hSw; (try dsimp only at hSw); go_simp <;> with_reducible rfl)
                    try simp only [Act.put, List.setIfInBounds_toArray, List.set_cons_zero, List.set_cons_succ]
                    refine Walk.act rfl (by rfl) (fun K hK => ?_)
                    go_simp
                    go_at_call 25
                    refine (qcmp_any (w := u2) (ry.below Y2) (rx.below Y2) (by decide) (by decide)).mono ?_
                    rw [E1.out]
                    rintro e u3 ⟨rfl, hc3⟩
                    have Y3 : Below wr.heap.size wr u3 := bel_trans Y2 hc3
                    refine hK.out _ _ (HK.out _ Y3) ?_
                    clear hK K
                    try simp only [Act.put, List.setIfInBounds_toArray, List.set_cons_zero, List.set_cons_succ]
                    refine Walk.take (v := ?_) rfl (by rfl) ?_ ?_
                    rotate_left
                    · (intro w' hSw; (try dsimp only at hSw); go_simp <;> with_reducible rfl)
                    try simp only [Act.put, List.setIfInBounds_toArray, List.set_cons_zero, List.set_cons_succ]
                    refine Walk.take (v := ?_) rfl (by rfl) ?_ ?_
                    rotate_left
                    · (intro w' hSw; (try dsimp only at hSw); go_simp <;> with_reducible rfl)
                    try simp only [Act.put, List.setIfInBounds_toArray, List.set_cons_zero, List.set_cons_succ]
                    refine Walk.take (v := ?_) rfl (by rfl) ?_ ?_
                    rotate_left
                    · (intro w' hSw; (try dsimp only at hSw); go_simp <;> with_reducible rfl)
                    try simp only [Act.put, List.setIfInBounds_toArray, List.set_cons_zero, List.set_cons_succ]
                    refine Walk.take (v := ?_) rfl (by rfl) ?_ ?_
                    rotate_left
                    · (intro w' hSw; (try dsimp only at hSw); go_simp <;> with_reducible rfl)
                    try simp only [Act.put, List.setIfInBounds_toArray, List.set_cons_zero, List.set_cons_succ]
                    refine Walk.take (v := ?_) rfl (by rfl) ?_ ?_
                    rotate_left
                    · (intro w' hSw; (try dsimp only at hSw); go_simp <;> with_reducible rfl)
                    try simp only [Act.put, List.setIfInBounds_toArray, List.set_cons_zero, List.set_cons_succ]
                    refine Walk.take (v := ?_) rfl (by rfl) ?_ ?_
                    rotate_left
                    · (intro w' hSw; (try dsimp only at hSw); go_simp <;> with_reducible rfl)
                    try simp only [Act.put, List.setIfInBounds_toArray, List.set_cons_zero, List.set_cons_succ]
                    refine Walk.take (v := ?_) rfl (by rfl) ?_ ?_
                    rotate_left
                    · (intro w' hSw; (try dsimp only at hSw); go_simp <;> with_reducible rfl)
                    try simp only [Act.put, List.setIfInBounds_toArray, List.set_cons_zero, List.set_cons_succ]
                    refine Walk.take (v := ?_) rfl (by rfl) ?_ ?_
                    rotate_left
                    · (intro w' hSw; (try dsimp only at hSw); go_simp <;> with_reducible rfl)
                    try simp only [Act.put, List.setIfInBounds_toArray, List.set_cons_zero, List.set_cons_succ]
                    refine Walk.take (v := ?_) rfl (by rfl) ?_ ?_
                    rotate_left
                    · (intro w' hSw; (try dsimp only at hSw); go_simp <;> with_reducible rfl)
                    try simp only [Act.put, List.setIfInBounds_toArray, List.set_cons_zero, List.set_cons_succ]
                    refine Walk.act rfl (by rfl) (fun K hK => ?_)
                    go_simp
                    go_at_call 25
                    refine (qcmp_any (w := u3) (rz.below Y3) (ry.below Y3) (by decide) (by decide)).mono ?_
                    rw [E3.out]
                    rintro e u4 ⟨rfl, hc4⟩
                    have Y4 : Below wr.heap.size wr u4 := bel_trans Y3 hc4
                    refine hK.out _ _ (HK.out _ Y4) ?_
                    clear hK K
                    try simp only [Act.put, List.setIfInBounds_toArray, List.set_cons_zero, List.set_cons_succ]
                    refine Walk.take (v := ?_) rfl (by rfl) ?_ ?_
                    rotate_left
                    · (intro w' hSw; (try dsimp only at hSw); go_simp <;> with_reducible rfl)
                    try simp only [Act.put, List.setIfInBounds_toArray, List.set_cons_zero, List.set_cons_succ]
                    refine Walk.take (v := ?_) rfl (by rfl) ?_ ?_
                    rotate_left
                    · (intro w' hSw; (try dsimp only at hSw); go_simp <;> with_reducible rfl)
                    try simp only [Act.put, List.setIfInBounds_toArray, List.set_cons_zero, List.set_cons_succ]
                    refine Walk.take (v := ?_) rfl (by rfl) ?_ ?_
                    rotate_left
                    · (intro w' hSw; (try dsimp only at hSw); go_simp <;> with_reducible rfl)
                    try simp only [Act.put, List.setIfInBounds_toArray, List.set_cons_zero, List.set_cons_succ]
                    refine Walk.take (v := ?_) rfl (by rfl) ?_ ?_
                    rotate_left
                    · (intro w' hSw; (try dsimp only at hSw); go_simp <;> with_reducible rfl)
                    try simp only [Act.put, List.setIfInBounds_toArray, List.set_cons_zero, List.set_cons_succ]
                    refine Walk.take (v := ?_) rfl (by rfl) ?_ ?_
                    rotate_left
                    · (intro w' hSw; (try dsimp only at hSw); go_simp <;> with_reducible rfl)
                    try simp only [Act.put, List.setIfInBounds_toArray, List.set_cons_zero, List.set_cons_succ]
                    refine Walk.take (v := ?_) rfl (by rfl) ?_ ?_
                    rotate_left
                    · (intro w' hSw; (try dsimp only at hSw); go_simp <;> with_reducible rfl)
                    try simp only [Act.put, List.setIfInBounds_toArray, List.set_cons_zero, List.set_cons_succ]
                    refine Walk.take (v := ?_) rfl (by rfl) ?_ ?_
                    rotate_left
                    · (intro w' hSw; (try dsimp only at hSw); go_simp <;> with_reducible rfl)
                    try simp only [Act.put, List.setIfInBounds_toArray, List.set_cons_zero, List.set_cons_succ]
                    refine Walk.take (v := ?_) rfl (by rfl) ?_ ?_
                    rotate_left
                    · (intro w' hSw; (try dsimp only at hSw); go_simp <;> with_reducible rfl)
                    try simp only [Act.put, List.setIfInBounds_toArray, List.set_cons_zero, List.set_cons_succ]
                    refine Walk.take (v := ?_) rfl (by rfl) ?_ ?_
                    rotate_left
                    · (intro w' hSw; (try dsimp only at hSw); go_simp <;> with_reducible rfl)
                    try simp only [Act.put, List.setIfInBounds_toArray, List.set_cons_zero, List.set_cons_succ]
                    refine Walk.take (v := ?_) rfl (by rfl) ?_ ?_
                    rotate_left
                    · (intro w' hSw; (try dsimp only at hSw); go_simp <;> with_reducible rfl)
                    try simp only [Act.put, List.setIfInBounds_toArray, List.set_cons_zero, List.set_cons_succ]
                    refine Walk.act rfl (by rfl) (fun K hK => ?_)
                    go_simp
                    go_at_call 25
                    refine (qcmp_any (w := u4) (rz.below Y4) (rx.below Y4) (by decide) (by decide)).mono ?_
                    rw [E4.out]
                    rintro e u5 ⟨rfl, hc5⟩
                    have Y5 : Below wr.heap.size wr u5 := bel_trans Y4 hc5
                    refine hK.out _ _ (HK.out _ Y5) ?_
                    clear hK K
                    try simp only [Act.put, List.setIfInBounds_toArray, List.set_cons_zero, List.set_cons_succ]
                    refine Walk.take (v := ?_) rfl (by rfl) ?_ ?_
                    rotate_left
                    · (intro w' hSw; (try dsimp only at hSw); go_simp <;> with_reducible rfl)
                    try simp only [Act.put, List.setIfInBounds_toArray, List.set_cons_zero, List.set_cons_succ]
                    refine Walk.take (v := ?_) rfl (by rfl) ?_ ?_
                    rotate_left
                    · (intro w' hSw; (try dsimp only at hSw); go_simp <;> with_reducible rfl)
                    try simp only [Act.put, List.setIfInBounds_toArray, List.set_cons_zero, List.set_cons_succ]
                    refine Walk.take (v := ?_) rfl (by rfl) ?_ ?_
                    rotate_left
                    · (intro w' hSw; (try dsimp only at hSw); go_simp <;> with_reducible rfl)
                    try simp only [Act.put, List.setIfInBounds_toArray, List.set_cons_zero, List.set_cons_succ]
                    refine Walk.done ?_
                    have HB2 := Lib.hid (bel_trans HB.out Y5)
                    clear HK HB
                    go_wp2_with fail
                    go_roundw
                    case rel => exact ⟨k + 1, by go_num, by omega, HB2⟩
                    case measure => simp [intOf]; omega
                  · have d3 : decide (c3 < 0) = false := decide_eq_false g3
                    clear l1 l3 l4
                    go_upto_region 23 with fail
                    refine region_plan (S := fun w' => w'.cell? ⟨g, off + i * 3, none⟩ = some (.bool sy) ∧ w'.cell? ⟨g, off + i * 3 + 1, none⟩ = some (.slice Ay ny cy) ∧ w'.cell? ⟨g, off + i * 3 + 2, none⟩ = some (.slice By my dy) ∧ w'.cell? ⟨g, off + k * 3, none⟩ = some (.bool sx) ∧ w'.cell? ⟨g, off + k * 3 + 1, none⟩ = some (.slice Ax nx cx) ∧ w'.cell? ⟨g, off + k * 3 + 2, none⟩ = some (.slice Bx mx dx) ∧ w'.cell? ⟨g, off, none⟩ = some (.bool sz) ∧ w'.cell? ⟨g, off + 1, none⟩ = some (.slice Az nz cz) ∧ w'.cell? ⟨g, off + 2, none⟩ = some (.slice Bz mz dz)) _ [(0, true), (1, true), (2, true), (3, true), (4, true), (5, true), (6, true), (7, true), (9, true), (10, true), (11, true), (12, true), (13, true), (14, true), (15, true), (16, true), (8, false), (17, false), (18, true), (19, true), (20, true), (21, true), (22, true), (23, true), (24, true), (25, true), (26, true), (27, true), (28, true), (29, false), (30, true), (31, true), (32, true), (33, true), (34, true), (35, true), (36, true), (37, true), (38, true), (39, false), (40, true), (41, true), (42, true), (43, true), (44, true), (45, true), (46, true), (47, true), (48, true), (49, true), (50, false), (51, true), (52, true), (53, true)] (by kernel_rfl) (by kernel_rfl) rfl (by kernel_rfl) (by kernel_rfl) (fun _ _ d _ _ h => by cases d <;> exact h) (HK.out _ (bel_drew (Below.refl _ _))) ?_
                    refine Walk.take (v := ?_) rfl (by rfl) ?_ ?_
                    rotate_left
                    · (intro w' hSw; (try dsimp only at hSw); go_simp <;> with_reducible rfl)
                    try simp only [Act.put, List.setIfInBounds_toArray, List.set_cons_zero, List.set_cons_succ]
                    refine Walk.take (v := ?_) rfl (by rfl) ?_ ?_
                    rotate_left
                    · (intro w' hSw; (try dsimp only at hSw); go_simp <;> with_reducible rfl)
                    try simp only [Act.put, List.setIfInBounds_toArray, List.set_cons_zero, List.set_cons_succ]
                    refine Walk.take (v := ?_) rfl (by rfl) ?_ ?_
                    rotate_left
                    · (intro w' hSw; (try dsimp only at hSw); go_simp <;> with_reducible rfl)
                    try simp only [Act.put, List.setIfInBounds_toArray, List.set_cons_zero, List.set_cons_succ]
                    refine Walk.take (v := ?_) rfl (by rfl) ?_ ?_
                    rotate_left
                    · (intro w' hSw; (try dsimp only at hSw); go_simp <;> with_reducible rfl)
                    try simp only [Act.put, List.setIfInBounds_toArray, List.set_cons_zero, List.set_cons_succ]
                    refine Walk.take (v := ?_) rfl (by rfl) ?_ ?_
                    rotate_left
                    · (intro w' hSw; (try dsimp only at hSw); go_simp <;> with_reducible rfl)
                    try simp only [Act.put, List.setIfInBounds_toArray, List.set_cons_zero, List.set_cons_succ]
                    refine Walk.take (v := ?_) rfl (by rfl) ?_ ?_
                    rotate_left
                    · (intro w' hSw; (try dsimp only at hSw); go_simp <;> with_reducible rfl)
                    try simp only [Act.put, List.setIfInBounds_toArray, List.set_cons_zero, List.set_cons_succ]
                    refine Walk.take (v := ?_) rfl (by rfl) ?_ ?_
                    rotate_left
                    · (intro w' hSw; (try dsimp only at hSw); go_simp <;> with_reducible rfl)
                    try simp only [Act.put, List.setIfInBounds_toArray, List.set_cons_zero, List.set_cons_succ]
                    refine Walk.take (v := ?_) rfl (by rfl) ?_ ?_
                    rotate_left
                    · (intro w' hSw; (try dsimp only at hSw); go_simp <;> with_reducible rfl)
                    try simp only [Act.put, List.setIfInBounds_toArray, List.set_cons_zero, List.set_cons_succ]
                    refine Walk.take (v := ?_) rfl (by rfl) ?_ ?_
                    rotate_left
                    · (intro w' hSw; (try dsimp only at hSw); go_simp <;> with_reducible rfl)
                    try simp only [Act.put, List.setIfInBounds_toArray, List.set_cons_zero, List.set_cons_succ]
                    refine Walk.take (v := ?_) rfl (by rfl) ?_ ?_
                    rotate_left
                    · (intro w' hSw; (try dsimp only at hSw); go_simp <;> with_reducible rfl)
                    try simp only [Act.put, List.setIfInBounds_toArray, List.set_cons_zero, List.set_cons_succ]
                    refine Walk.take (v := ?_) rfl (by rfl) ?_ ?_
                    rotate_left
                    · (intro w' hSw; (try dsimp only at hSw); go_simp <;> with_reducible rfl)
                    try simp only [Act.put, List.setIfInBounds_toArray, List.set_cons_zero, List.set_cons_succ]
                    refine Walk.take (v := ?_) rfl (by rfl) ?_ ?_
                    rotate_left
                    · (intro w' hSw; (try dsimp only at hSw); go_simp <;> with_reducible rfl)
                    try simp only [Act.put, List.setIfInBounds_toArray, List.set_cons_zero, List.set_cons_succ]
                    refine Walk.take (v := ?_) rfl (by rfl) ?_ ?_
                    rotate_left
                    · (intro w' hSw; (try dsimp only at hSw); go_simp <;> with_reducible rfl)
                    try simp only [Act.put, List.setIfInBounds_toArray, List.set_cons_zero, List.set_cons_succ]
                    refine Walk.take (v := ?_) rfl (by rfl) ?_ ?_
                    rotate_left
                    · (intro w' hSw; (try dsimp only at hSw); go_simp <;> with_reducible rfl)
                    try simp only [Act.put, List.setIfInBounds_toArray, List.set_cons_zero, List.set_cons_succ]
                    refine Walk.take (v := ?_) rfl (by rfl) ?_ ?_
                    rotate_left
                    · (intro w' hSw; (try dsimp only at hSw); go_simp <;> with_reducible rfl)
                    try simp only [Act.put, List.setIfInBounds_toArray, List.set_cons_zero, List.set_cons_succ]
                    refine Walk.take (v := ?_) rfl (by rfl) ?_ ?_
                    rotate_left
                    · (intro w' hSw; (try dsimp only at hSw); go_simp <;> with_reducible rfl)
                    try simp only [Act.put, List.setIfInBounds_toArray, List.set_cons_zero, List.set_cons_succ]
                    refine Walk.act rfl (by rfl) (fun K hK => ?_)
                    go_simp
                    go_at_call 25
                    refine (qcmp_any (w := wr.drew) (ry.below (bel_drew (Below.refl wr.heap.size wr))) (rx.below (bel_drew (Below.refl wr.heap.size wr))) (by decide) (by decide)).mono ?_
                    rw [E1.out]
                    rintro e u1 ⟨rfl, hc1⟩
                    have Y1 : Below wr.heap.size wr u1 := bel_trans (bel_drew (Below.refl wr.heap.size wr)) hc1
                    refine hK.out _ _ (HK.out _ Y1) ?_
                    clear hK K
                    try simp only [Act.put, List.setIfInBounds_toArray, List.set_cons_zero, List.set_cons_succ]
                    refine Walk.act rfl (by rfl) (fun K hK => ?_)
                    go_simp
                    go_at_call 25
                    refine (qcmp_any (w := u1) (rx.below Y1) (ry.below Y1) (by decide) (by decide)).mono ?_
                    rw [E2.out]
                    rintro e u2 ⟨rfl, hc2⟩
                    have Y2 : Below wr.heap.size wr u2 := bel_trans Y1 hc2
                    refine hK.out _ _ (HK.out _ Y2) ?_
                    clear hK K
                    try simp only [Act.put, List.setIfInBounds_toArray, List.set_cons_zero, List.set_cons_succ]
                    refine Walk.take (v := ?_) rfl (by rfl) ?_ ?_
                    rotate_left
                    · (intro w' hSw; (try dsimp only at hSw); go_simp <;> with_reducible rfl)
                    try simp only [Act.put, List.setIfInBounds_toArray, List.set_cons_zero, List.set_cons_succ]
                    refine Walk.take (v := ?_) rfl (by rfl) ?_ ?_
                    rotate_left
                    · (intro w' hSw; (try dsimp only at hSw); go_simp <;> with_reducible rfl)
                    try simp only [Act.put, List.setIfInBounds_toArray, List.set_cons_zero, List.set_cons_succ]
                    refine Walk.take (v := ?_) rfl (by rfl) ?_ ?_
                    rotate_left
                    · (intro w' hSw; (try dsimp only at hSw); go_simp <;> with_reducible rfl)
                    try simp only [Act.put, List.setIfInBounds_toArray, List.set_cons_zero, List.set_cons_succ]
                    refine Walk.take (v := ?_) rfl (by rfl) ?_ ?_
                    rotate_left
                    · (intro w' hSw; (try dsimp only at hSw); go_simp <;> with_reducible rfl)
                    try simp only [Act.put, List.setIfInBounds_toArray, List.set_cons_zero, List.set_cons_succ]
                    refine Walk.take (v := ?_) rfl (by rfl) ?_ ?_
                    rotate_left
                    · (intro w' hSw; (try dsimp only at hSw); go_simp <;> with_reducible rfl)
                    try simp only [Act.put, List.setIfInBounds_toArray, List.set_cons_zero, List.set_cons_succ]
                    refine Walk.take (v := ?_) rfl (by rfl) ?_ ?_
                    rotate_left
                    · (intro w' hSw; (try dsimp only at hSw); go_simp <;> with_reducible rfl)
                    try simp only [Act.put, List.setIfInBounds_toArray, List.set_cons_zero, List.set_cons_succ]
                    refine Walk.take (v := ?_) rfl (by rfl) ?_ ?_
                    rotate_left
                    · (intro w' hSw; (try dsimp only at hSw); go_simp <;> with_reducible rfl)
                    try simp only [Act.put, List.setIfInBounds_toArray, List.set_cons_zero, List.set_cons_succ]
                    refine Walk.take (v := ?_) rfl (by rfl) ?_ ?_
                    rotate_left
                    · (intro w' hSw; (try dsimp only at hSw); go_simp <;> with_reducible rfl)
                    try simp only [Act.put, List.setIfInBounds_toArray, List.set_cons_zero, List.set_cons_succ]
                    refine Walk.take (v := ?_) rfl (by rfl) ?_ ?_
                    rotate_left
                    · (intro w' hSw; (try dsimp only at hSw); go_simp <;> with_reducible rfl)
                    try simp only [Act.put, List.setIfInBounds_toArray, List.set_cons_zero, List.set_cons_succ]
                    refine Walk.take (v := ?_) rfl (by rfl) ?_ ?_
                    rotate_left
                    · (intro w' hSw; (try dsimp only at hSw); go_simp <;> with_reducible rfl)
                    try simp only [Act.put, List.setIfInBounds_toArray, List.set_cons_zero, List.set_cons_succ]
                    refine Walk.take (v := ?_) rfl (by rfl) ?_ ?_
                    rotate_left
                    · (intro w' hSw; (try dsimp only at hSw); go_simp <;> with_reducible rfl)
                    try simp only [Act.put, List.setIfInBounds_toArray, List.set_cons_zero, List.set_cons_succ]
                    refine Walk.act rfl (by rfl) (fun K hK => ?_)
                    go_simp
                    go_at_call 25
                    refine (qcmp_any (w := u2) (ry.below Y2) (rx.below Y2) (by decide) (by decide)).mono ?_
                    rw [E1.out]
                    rintro e u3 ⟨rfl, hc3⟩
                    have Y3 : Below wr.heap.size wr u3 := bel_trans Y2 hc3
                    refine hK.out _ _ (HK.out _ Y3) ?_
                    clear hK K
                    try simp only [Act.put, List.setIfInBounds_toArray, List.set_cons_zero, List.set_cons_succ]
                    refine Walk.take (v := ?_) rfl (by rfl) ?_ ?_
                    rotate_left
                    · (intro w' hSw; (try dsimp only at hSw); go_simp <;> with_reducible rfl)
                    try simp only [Act.put, List.setIfInBounds_toArray, List.set_cons_zero, List.set_cons_succ]
                    refine Walk.take (v := ?_) rfl (by rfl) ?_ ?_
                    rotate_left
                    · (intro w' hSw; (try dsimp only at hSw); go_simp <;> with_reducible rfl)
                    try simp only [Act.put, List.setIfInBounds_toArray, List.set_cons_zero, List.set_cons_succ]
                    refine Walk.take (v := ?_) rfl (by rfl) ?_ ?_
                    rotate_left
                    · (intro w' hSw; (try dsimp only at hSw); go_simp <;> with_reducible rfl)
                    try simp only [Act.put, List.setIfInBounds_toArray, List.set_cons_zero, List.set_cons_succ]
                    refine Walk.take (v := ?_) rfl (by rfl) ?_ ?_
                    rotate_left
                    · (intro w' hSw; (try dsimp only at hSw); go_simp <;> with_reducible rfl)
                    try simp only [Act.put, List.setIfInBounds_toArray, List.set_cons_zero, List.set_cons_succ]
                    refine Walk.take (v := ?_) rfl (by rfl) ?_ ?_
                    rotate_left
                    · (intro w' hSw; (try dsimp only at hSw); go_simp <;> with_reducible rfl)
                    try simp only [Act.put, List.setIfInBounds_toArray, List.set_cons_zero, List.set_cons_succ]
                    refine Walk.take (v := ?_) rfl (by rfl) ?_ ?_
                    rotate_left
                    · (intro w' hSw; (try dsimp only at hSw); go_simp <;> with_reducible rfl)
                    try simp only [Act.put, List.setIfInBounds_toArray, List.set_cons_zero, List.set_cons_succ]
                    refine Walk.take (v := ?_) rfl (by rfl) ?_ ?_
                    rotate_left
                    · (intro w' hSw; (try dsimp only at hSw); go_simp <;> with_reducible rfl)
                    try simp only [Act.put, List.setIfInBounds_toArray, List.set_cons_zero, List.set_cons_succ]
                    refine Walk.take (v := ?_) rfl (by rfl) ?_ ?_
                    rotate_left
                    · (intro w' hSw; (try dsimp only at hSw); go_simp <;> with_reducible rfl)
                    try simp only [Act.put, List.setIfInBounds_toArray, List.set_cons_zero, List.set_cons_succ]
                    refine Walk.take (v := ?_) rfl (by rfl) ?_ ?_
                    rotate_left
                    · (intro w' hSw; (try dsimp only at hSw); go_simp <;> with_reducible rfl)
                    try simp only [Act.put, List.setIfInBounds_toArray, List.set_cons_zero, List.set_cons_succ]
                    refine Walk.act rfl (by rfl) (fun K hK => ?_)
                    go_simp
                    go_at_call 25
                    refine (qcmp_any (w := u3) (rz.below Y3) (ry.below Y3) (by decide) (by decide)).mono ?_
                    rw [E3.out]
                    rintro e u4 ⟨rfl, hc4⟩
                    have Y4 : Below wr.heap.size wr u4 := bel_trans Y3 hc4
                    refine hK.out _ _ (HK.out _ Y4) ?_
                    clear hK K
                    try simp only [Act.put, List.setIfInBounds_toArray, List.set_cons_zero, List.set_cons_succ]
                    refine Walk.take (v := ?_) rfl (by rfl) ?_ ?_
                    rotate_left
                    · (intro w' hSw; (try dsimp only at hSw); go_simp <;> with_reducible rfl)
                    try simp only [Act.put, List.setIfInBounds_toArray, List.set_cons_zero, List.set_cons_succ]
                    refine Walk.take (v := ?_) rfl (by rfl) ?_ ?_
                    rotate_left
                    · (intro w' hSw; (try dsimp only at hSw); go_simp <;> with_reducible rfl)
                    try simp only [Act.put, List.setIfInBounds_toArray, List.set_cons_zero, List.set_cons_succ]
                    refine Walk.take (v := ?_) rfl (by rfl) ?_ ?_
                    rotate_left
                    · (intro w' hSw; (try dsimp only at hSw); go_simp <;> with_reducible rfl)
                    try simp only [Act.put, List.setIfInBounds_toArray, List.set_cons_zero, List.set_cons_succ]
                    refine Walk.skip rfl (by rfl) ?_
                    try simp only [Act.put, List.setIfInBounds_toArray, List.set_cons_zero, List.set_cons_succ]
                    refine Walk.skip rfl (by rfl) ?_
                    try simp only [Act.put, List.setIfInBounds_toArray, List.set_cons_zero, List.set_cons_succ]
                    refine Walk.skip rfl (by rfl) ?_
                    try simp only [Act.put, List.setIfInBounds_toArray, List.set_cons_zero, List.set_cons_succ]
                    refine Walk.skip rfl (by rfl) ?_
                    try simp only [Act.put, List.setIfInBounds_toArray, List.set_cons_zero, List.set_cons_succ]
                    refine Walk.skip rfl (by rfl) ?_
                    try simp only [Act.put, List.setIfInBounds_toArray, List.set_cons_zero, List.set_cons_succ]
                    refine Walk.skip rfl (by rfl) ?_
                    try simp only [Act.put, List.setIfInBounds_toArray, List.set_cons_zero, List.set_cons_succ]
                    refine Walk.skip rfl (by rfl) ?_
                    try simp only [Act.put, List.setIfInBounds_toArray, List.set_cons_zero, List.set_cons_succ]
                    refine Walk.pass rfl (by rfl) (HK.out _ Y4) ?_
                    try simp only [Act.put, List.setIfInBounds_toArray, List.set_cons_zero, List.set_cons_succ]
                    refine Walk.skip rfl (by rfl) ?_
                    try simp only [Act.put, List.setIfInBounds_toArray, List.set_cons_zero, List.set_cons_succ]
                    refine Walk.take (v := ?_) rfl (by rfl) ?_ ?_
                    rotate_left
                    · (intro w' hSw; (try dsimp only at hSw); go_simp <;> with_reducible rfl)
                    try simp only [Act.put, List.setIfInBounds_toArray, List.set_cons_zero, List.set_cons_succ]
                    refine Walk.take (v := ?_) rfl (by rfl) ?_ ?_
                    rotate_left
                    · (intro w' hSw; (try dsimp only at hSw); go_simp <;> with_reducible rfl)
                    try simp only [Act.put, List.setIfInBounds_toArray, List.set_cons_zero, List.set_cons_succ]
                    refine Walk.done ?_
                    have HB2 := Lib.hid (bel_trans HB.out Y4)
                    clear HK HB
                    go_wp2_with fail
                    go_roundw
                    case rel => exact ⟨k + 1, by go_num, by omega, HB2⟩
                    case measure => simp [intOf]; omega
                · have d1 : decide (c1 < 0) = false := decide_eq_false g1
                  clear l1 l3 l4
                  go_upto_region 23 with fail
                  refine region_plan (S := fun w' => w'.cell? ⟨g, off + i * 3, none⟩ = some (.bool sy) ∧ w'.cell? ⟨g, off + i * 3 + 1, none⟩ = some (.slice Ay ny cy) ∧ w'.cell? ⟨g, off + i * 3 + 2, none⟩ = some (.slice By my dy) ∧ w'.cell? ⟨g, off + k * 3, none⟩ = some (.bool sx) ∧ w'.cell? ⟨g, off + k * 3 + 1, none⟩ = some (.slice Ax nx cx) ∧ w'.cell? ⟨g, off + k * 3 + 2, none⟩ = some (.slice Bx mx dx) ∧ w'.cell? ⟨g, off, none⟩ = some (.bool sz) ∧ w'.cell? ⟨g, off + 1, none⟩ = some (.slice Az nz cz) ∧ w'.cell? ⟨g, off + 2, none⟩ = some (.slice Bz mz dz)) _ [(0, true), (1, true), (2, true), (3, true), (4, true), (5, true), (6, true), (7, true), (9, true), (10, true), (11, true), (12, true), (13, true), (14, true), (15, true), (16, true), (8, false), (17, false), (18, true), (19, true), (20, true), (21, true), (22, true), (23, true), (24, true), (25, true), (26, true), (27, true), (28, true), (29, false), (30, true), (31, true), (32, true), (33, true), (34, true), (35, true), (36, true), (37, true), (38, true), (39, false), (40, true), (41, true), (42, true), (43, true), (44, true), (45, true), (46, true), (47, true), (48, true), (49, true), (50, false), (51, true), (52, true), (53, true)] (by kernel_rfl) (by kernel_rfl) rfl (by kernel_rfl) (by kernel_rfl) (fun _ _ d _ _ h => by cases d <;> exact h) (HK.out _ (bel_drew (Below.refl _ _))) ?_
                  refine Walk.take (v := ?_) rfl (by rfl) ?_ ?_
                  rotate_left
                  · (intro w' hSw; (try dsimp only at hSw); go_simp <;> with_reducible rfl)
                  try simp only [Act.put, List.setIfInBounds_toArray, List.set_cons_zero, List.set_cons_succ]
                  refine Walk.take (v := ?_) rfl (by rfl) ?_ ?_
                  rotate_left
                  · (intro w' hSw; (try dsimp only at hSw); go_simp <;> with_reducible rfl)
                  try simp only [Act.put, List.setIfInBounds_toArray, List.set_cons_zero, List.set_cons_succ]
                  refine Walk.take (v := ?_) rfl (by rfl) ?_ ?_
                  rotate_left
                  · (intro w' hSw; (try dsimp only at hSw); go_simp <;> with_reducible rfl)
                  try simp only [Act.put, List.setIfInBounds_toArray, List.set_cons_zero, List.set_cons_succ]
                  refine Walk.take (v := ?_) rfl (by rfl) ?_ ?_
                  rotate_left
                  · (intro w' hSw; (try dsimp only at hSw); go_simp <;> with_reducible rfl)
                  try simp only [Act.put, List.setIfInBounds_toArray, List.set_cons_zero, List.set_cons_succ]
                  refine Walk.take (v := ?_) rfl (by rfl) ?_ ?_
                  rotate_left
                  · (intro w' hSw; (try dsimp only at hSw); go_simp <;> with_reducible rfl)
                  try simp only [Act.put, List.setIfInBounds_toArray, List.set_cons_zero, List.set_cons_succ]
                  refine Walk.take (v := ?_) rfl (by rfl) ?_ ?_
                  rotate_left
                  · (intro w' hSw; (try dsimp only at hSw); go_simp <;> with_reducible rfl)
                  try simp only [Act.put, List.setIfInBounds_toArray, List.set_cons_zero, List.set_cons_succ]
                  refine Walk.take (v := ?_) rfl (by rfl) ?_ ?_
                  rotate_left
                  · (intro w' hSw; (try dsimp only at hSw); go_simp <;> with_reducible rfl)
                  try simp only [Act.put, List.setIfInBounds_toArray, List.set_cons_zero, List.set_cons_succ]
                  refine Walk.take (v := ?_) rfl (by rfl) ?_ ?_
                  rotate_left
                  · (intro w' hSw; (try dsimp only at hSw); go_simp <;> with_reducible rfl)
                  try simp only [Act.put, List.setIfInBounds_toArray, List.set_cons_zero, List.set_cons_succ]
                  refine Walk.take (v := ?_) rfl (by rfl) ?_ ?_
                  rotate_left
                  · (intro w' hSw; (try dsimp only at hSw); go_simp <;> with_reducible rfl)
                  try simp only [Act.put, List.setIfInBounds_toArray, List.set_cons_zero, List.set_cons_succ]
                  refine Walk.take (v := ?_) rfl (by rfl) ?_ ?_
                  rotate_left
                  · (intro w' hSw; (try dsimp only at hSw); go_simp <;> with_reducible rfl)
                  try simp only [Act.put, List.setIfInBounds_toArray, List.set_cons_zero, List.set_cons_succ]
                  refine Walk.take (v := ?_) rfl (by rfl) ?_ ?_
                  rotate_left
                  · (intro w' hSw; (try dsimp only at hSw); go_simp <;> with_reducible rfl)
                  try simp only [Act.put, List.setIfInBounds_toArray, List.set_cons_zero, List.set_cons_succ]
                  refine Walk.take (v := ?_) rfl (by rfl) ?_ ?_
                  rotate_left
                  · (intro w' hSw; (try dsimp only at hSw); go_simp <;> with_reducible rfl)
                  try simp only [Act.put, List.setIfInBounds_toArray, List.set_cons_zero, List.set_cons_succ]
                  refine Walk.take (v := ?_) rfl (by rfl) ?_ ?_
                  rotate_left
                  · (intro w' hSw; (try dsimp only at hSw); go_simp <;> with_reducible rfl)
                  try simp only [Act.put, List.setIfInBounds_toArray, List.set_cons_zero, List.set_cons_succ]
                  refine Walk.take (v := ?_) rfl (by rfl) ?_ ?_
                  rotate_left
                  · (intro w' hSw; (try dsimp only at hSw); go_simp <;> with_reducible rfl)
                  try simp only [Act.put, List.setIfInBounds_toArray, List.set_cons_zero, List.set_cons_succ]
                  refine Walk.take (v := ?_) rfl (by rfl) ?_ ?_
                  rotate_left
                  · (intro w' hSw; (try dsimp only at hSw); go_simp <;> with_reducible rfl)
                  try simp only [Act.put, List.setIfInBounds_toArray, List.set_cons_zero, List.set_cons_succ]
                  refine Walk.take (v := ?_) rfl (by rfl) ?_ ?_
                  rotate_left
                  · (intro w' hSw; (try dsimp only at hSw); go_simp <;> with_reducible rfl)
                  try simp only [Act.put, List.setIfInBounds_toArray, List.set_cons_zero, List.set_cons_succ]
                  refine Walk.act rfl (by rfl) (fun K hK => ?_)
                  go_simp
                  go_at_call 25
                  refine (qcmp_any (w := wr.drew) (ry.below (bel_drew (Below.refl wr.heap.size wr))) (rx.below (bel_drew (Below.refl wr.heap.size wr))) (by decide) (by decide)).mono ?_
                  rw [E1.out]
                  rintro e u1 ⟨rfl, hc1⟩
                  have Y1 : Below wr.heap.size wr u1 := bel_trans (bel_drew (Below.refl wr.heap.size wr)) hc1
                  refine hK.out _ _ (HK.out _ Y1) ?_
                  clear hK K
                  try simp only [Act.put, List.setIfInBounds_toArray, List.set_cons_zero, List.set_cons_succ]
                  refine Walk.act rfl (by rfl) (fun K hK => ?_)
                  go_simp
                  go_at_call 25
                  refine (qcmp_any (w := u1) (rx.below Y1) (ry.below Y1) (by decide) (by decide)).mono ?_
                  rw [E2.out]
                  rintro e u2 ⟨rfl, hc2⟩
                  have Y2 : Below wr.heap.size wr u2 := bel_trans Y1 hc2
                  refine hK.out _ _ (HK.out _ Y2) ?_
                  clear hK K
                  try simp only [Act.put, List.setIfInBounds_toArray, List.set_cons_zero, List.set_cons_succ]
                  refine Walk.take (v := ?_) rfl (by rfl) ?_ ?_
                  rotate_left
                  · (intro w' hSw; (try dsimp only at hSw); go_simp <;> with_reducible rfl)
                  try simp only [Act.put, List.setIfInBounds_toArray, List.set_cons_zero, List.set_cons_succ]
                  refine Walk.take (v := ?_) rfl (by rfl) ?_ ?_
                  rotate_left
                  · (intro w' hSw; (try dsimp only at hSw); go_simp <;> with_reducible rfl)
                  try simp only [Act.put, List.setIfInBounds_toArray, List.set_cons_zero, List.set_cons_succ]
                  refine Walk.take (v := ?_) rfl (by rfl) ?_ ?_
                  rotate_left
                  · (intro w' hSw; (try dsimp only at hSw); go_simp <;> with_reducible rfl)
                  try simp only [Act.put, List.setIfInBounds_toArray, List.set_cons_zero, List.set_cons_succ]
                  refine Walk.take (v := ?_) rfl (by rfl) ?_ ?_
                  rotate_left
                  · (intro w' hSw; (try dsimp only at hSw); go_simp <;> with_reducible rfl)
                  try simp only [Act.put, List.setIfInBounds_toArray, List.set_cons_zero, List.set_cons_succ]
                  refine Walk.take (v := ?_) rfl (by rfl) ?_ ?_
                  rotate_left
                  · (intro w' hSw; (try dsimp only at hSw); go_simp <;> with_reducible rfl)
                  try simp only [Act.put, List.setIfInBounds_toArray, List.set_cons_zero, List.set_cons_succ]
                  refine Walk.take (v := ?_) rfl (by rfl) ?_ ?_
                  rotate_left
                  · (intro w' hSw; (try dsimp only at hSw); go_simp <;> with_reducible rfl)
                  try simp only [Act.put, List.setIfInBounds_toArray, List.set_cons_zero, List.set_cons_succ]
                  refine Walk.take (v := ?_) rfl (by rfl) ?_ ?_
                  rotate_left
                  · (intro w' hSw; (try dsimp only at hSw); go_simp <;> with_reducible rfl)
                  try simp only [Act.put, List.setIfInBounds_toArray, List.set_cons_zero, List.set_cons_succ]
                  refine Walk.take (v := ?_) rfl (by rfl) ?_ ?_
                  rotate_left
                  · (intro w' hSw; (try dsimp only at hSw); go_simp <;> with_reducible rfl)
                  try simp only [Act.put, List.setIfInBounds_toArray, List.set_cons_zero, List.set_cons_succ]
                  refine Walk.take (v := ?_) rfl (by rfl) ?_ ?_
                  rotate_left
                  · (intro w' hSw; (try dsimp only at hSw); go_simp <;> with_reducible rfl)
                  try simp only [Act.put, List.setIfInBounds_toArray, List.set_cons_zero, List.set_cons_succ]
                  refine Walk.take (v := ?_) rfl (by rfl) ?_ ?_
                  rotate_left
                  · (intro w' hSw; (try dsimp only at hSw); go_simp <;> with_reducible rfl)
                  try simp only [Act.put, List.setIfInBounds_toArray, List.set_cons_zero, List.set_cons_succ]
                  refine Walk.take (v := ?_) rfl (by rfl) ?_ ?_
                  rotate_left
                  · (intro w' hSw; (try dsimp only at hSw); go_simp <;> with_reducible rfl)
                  try simp only [Act.put, List.setIfInBounds_toArray, List.set_cons_zero, List.set_cons_succ]
                  refine Walk.act rfl (by rfl) (fun K hK => ?_)
                  go_simp
                  go_at_call 25
                  refine (qcmp_any (w := u2) (ry.below Y2) (rx.below Y2) (by decide) (by decide)).mono ?_
                  rw [E1.out]
                  rintro e u3 ⟨rfl, hc3⟩
                  have Y3 : Below wr.heap.size wr u3 := bel_trans Y2 hc3
                  refine hK.out _ _ (HK.out _ Y3) ?_
                  clear hK K
                  try simp only [Act.put, List.setIfInBounds_toArray, List.set_cons_zero, List.set_cons_succ]
                  refine Walk.take (v := ?_) rfl (by rfl) ?_ ?_
                  rotate_left
                  · (intro w' hSw; (try dsimp only at hSw); go_simp <;> with_reducible rfl)
                  try simp only [Act.put, List.setIfInBounds_toArray, List.set_cons_zero, List.set_cons_succ]
                  refine Walk.take (v := ?_) rfl (by rfl) ?_ ?_
                  rotate_left
                  · (intro w' hSw; (try dsimp only at hSw); go_simp <;> with_reducible rfl)
                  try simp only [Act.put, List.setIfInBounds_toArray, List.set_cons_zero, List.set_cons_succ]
                  refine Walk.skip rfl (by rfl) ?_
                  try simp only [Act.put, List.setIfInBounds_toArray, List.set_cons_zero, List.set_cons_succ]
                  refine Walk.skip rfl (by rfl) ?_
                  try simp only [Act.put, List.setIfInBounds_toArray, List.set_cons_zero, List.set_cons_succ]
                  refine Walk.skip rfl (by rfl) ?_
                  try simp only [Act.put, List.setIfInBounds_toArray, List.set_cons_zero, List.set_cons_succ]
                  refine Walk.skip rfl (by rfl) ?_
                  try simp only [Act.put, List.setIfInBounds_toArray, List.set_cons_zero, List.set_cons_succ]
                  refine Walk.skip rfl (by rfl) ?_
                  try simp only [Act.put, List.setIfInBounds_toArray, List.set_cons_zero, List.set_cons_succ]
                  refine Walk.skip rfl (by rfl) ?_
                  try simp only [Act.put, List.setIfInBounds_toArray, List.set_cons_zero, List.set_cons_succ]
                  refine Walk.skip rfl (by rfl) ?_
                  try simp only [Act.put, List.setIfInBounds_toArray, List.set_cons_zero, List.set_cons_succ]
                  refine Walk.pass rfl (by rfl) (HK.out _ Y3) ?_
                  try simp only [Act.put, List.setIfInBounds_toArray, List.set_cons_zero, List.set_cons_succ]
                  refine Walk.skip rfl (by rfl) ?_
                  try simp only [Act.put, List.setIfInBounds_toArray, List.set_cons_zero, List.set_cons_succ]
                  refine Walk.take (v := ?_) rfl (by rfl) ?_ ?_
                  rotate_left
                  · (intro w' hSw; (try dsimp only at hSw); go_simp <;> with_reducible rfl)
                  try simp only [Act.put, List.setIfInBounds_toArray, List.set_cons_zero, List.set_cons_succ]
                  refine Walk.take (v := ?_) rfl (by rfl) ?_ ?_
                  rotate_left
                  · (intro w' hSw; (try dsimp only at hSw); go_simp <;> with_reducible rfl)
                  try simp only [Act.put, List.setIfInBounds_toArray, List.set_cons_zero, List.set_cons_succ]
                  refine Walk.skip rfl (by rfl) ?_
                  try simp only [Act.put, List.setIfInBounds_toArray, List.set_cons_zero, List.set_cons_succ]
                  refine Walk.skip rfl (by rfl) ?_
                  try simp only [Act.put, List.setIfInBounds_toArray, List.set_cons_zero, List.set_cons_succ]
                  refine Walk.skip rfl (by rfl) ?_
                  try simp only [Act.put, List.setIfInBounds_toArray, List.set_cons_zero, List.set_cons_succ]
                  refine Walk.skip rfl (by rfl) ?_
                  try simp only [Act.put, List.setIfInBounds_toArray, List.set_cons_zero, List.set_cons_succ]
                  refine Walk.skip rfl (by rfl) ?_
                  try simp only [Act.put, List.setIfInBounds_toArray, List.set_cons_zero, List.set_cons_succ]
                  refine Walk.skip rfl (by rfl) ?_
                  try simp only [Act.put, List.setIfInBounds_toArray, List.set_cons_zero, List.set_cons_succ]
                  refine Walk.skip rfl (by rfl) ?_
                  try simp only [Act.put, List.setIfInBounds_toArray, List.set_cons_zero, List.set_cons_succ]
                  refine Walk.pass rfl (by rfl) (HK.out _ Y3) ?_
                  try simp only [Act.put, List.setIfInBounds_toArray, List.set_cons_zero, List.set_cons_succ]
                  refine Walk.skip rfl (by rfl) ?_
                  try simp only [Act.put, List.setIfInBounds_toArray, List.set_cons_zero, List.set_cons_succ]
                  refine Walk.take (v := ?_) rfl (by rfl) ?_ ?_
                  rotate_left
                  · (intro w' hSw; (try dsimp only at hSw); go_simp <;> with_reducible rfl)
                  try simp only [Act.put, List.setIfInBounds_toArray, List.set_cons_zero, List.set_cons_succ]
                  refine Walk.take (v := ?_) rfl (by rfl) ?_ ?_
                  rotate_left
                  · (intro w' hSw; (try dsimp only at hSw); go_simp <;> with_reducible rfl)
                  try simp only [Act.put, List.setIfInBounds_toArray, List.set_cons_zero, List.set_cons_succ]
                  refine Walk.done ?_
                  have HB2 := Lib.hid (bel_trans HB.out Y3)
                  clear HK HB
                  go_wp2_with fail
                  go_roundw
                  case rel => exact ⟨k + 1, by go_num, by omega, HB2⟩
                  case measure => simp [intOf]; omega
              · go_wp2_with fail
                go_roundw
                case rel => exact ⟨i + 1, _, rfl, by go_num, by omega, TH3, HB⟩
                case measure => simp [intOf]; omega
          · skip
            clear TH2
            go_wp2_with fail
            go_loopw [9] (fun s9 wq => ∃ k : Nat, s9 = .int .i64 (k : Int) ∧ k ≤ n ∧ Hid (Below W.heap.size W wq)) (fun s9 _ => n - (intOf s9).toNat)
            case atStart => exact ⟨0, rfl, Nat.zero_le _, HB1⟩
            case round =>
              clear HB1
              obtain ⟨k, rfl, hkn, HB⟩ := hrel
              by_cases hk : k < n
              · obtain ⟨vy, hvy⟩ : ∃ v, vs[i]? = some v := ⟨_, List.getElem?_eq_getElem (by rw [HLN.out]; omega)⟩
                have ry := (hf4 i vy hvy).below HB.out
                obtain ⟨sy, Ay, ny, cy, By, my, dy, rfl⟩ := ry.form3
                simp only at ry
                obtain ⟨y0, y1, y2⟩ := (hr4.below HB.out).at_ hvy
                simp only at y0 y1 y2
                clear hvy
                obtain ⟨vx, hvx⟩ : ∃ v, vs[k]? = some v := ⟨_, List.getElem?_eq_getElem (by rw [HLN.out]; omega)⟩
                have rx := (hf4 k vx hvx).below HB.out
                obtain ⟨sx, Ax, nx, cx, Bx, mx, dx, rfl⟩ := rx.form3
                simp only at rx
                obtain ⟨x0, x1, x2⟩ := (hr4.below HB.out).at_ hvx
                simp only at x0 x1 x2
                clear hvx
                obtain ⟨vz, hvz⟩ : ∃ v, vs[0]? = some v := ⟨_, List.getElem?_eq_getElem (by rw [HLN.out]; omega)⟩
                have rz := (hf4 0 vz hvz).below HB.out
                obtain ⟨sz, Az, nz, cz, Bz, mz, dz, rfl⟩ := rz.form3
                simp only at rz
                obtain ⟨z0, z1, z2⟩ := (hr4.below HB.out).at_ hvz
                simp only [Nat.zero_mul, Nat.add_zero] at z0 z1 z2
                clear hvz
                have hk0 : (0 : Int) ≤ (k : Int) := by omega
                have hkl : (k : Int) < (n : Int) := by omega
                have hnp : 0 < n := by omega
                have HK : Hid (∀ w', Below wr.heap.size wr w' → w'.cell? ⟨g, off + i * 3, none⟩ = some (.bool sy) ∧ w'.cell? ⟨g, off + i * 3 + 1, none⟩ = some (.slice Ay ny cy) ∧ w'.cell? ⟨g, off + i * 3 + 2, none⟩ = some (.slice By my dy) ∧ w'.cell? ⟨g, off + k * 3, none⟩ = some (.bool sx) ∧ w'.cell? ⟨g, off + k * 3 + 1, none⟩ = some (.slice Ax nx cx) ∧ w'.cell? ⟨g, off + k * 3 + 2, none⟩ = some (.slice Bx mx dx) ∧ w'.cell? ⟨g, off, none⟩ = some (.bool sz) ∧ w'.cell? ⟨g, off + 1, none⟩ = some (.slice Az nz cz) ∧ w'.cell? ⟨g, off + 2, none⟩ = some (.slice Bz mz dz)) := fun w' hb => kps9 hb y0 y1 y2 x0 x1 x2 z0 z1 z2
                clear y0 y1 y2 x0 x1 x2 z0 z1 z2
                have tn := cmp_turn (f i) (f k)
                have bd := cmp_bd (f k) (f i)
                have l1 := cmp_neg (a := f i) (b := f k)
                have l3 := cmp_neg (a := f 0) (b := f i)
                have l4 := cmp_neg (a := f 0) (b := f k)
                obtain ⟨c1, e1⟩ : ∃ c, cmpR (f i) (f k) = c := ⟨_, rfl⟩
                obtain ⟨c2, e2⟩ : ∃ c, cmpR (f k) (f i) = c := ⟨_, rfl⟩
                obtain ⟨c3, e3⟩ : ∃ c, cmpR (f 0) (f i) = c := ⟨_, rfl⟩
                obtain ⟨c4, e4⟩ : ∃ c, cmpR (f 0) (f k) = c := ⟨_, rfl⟩
                rw [e1, e2] at tn
                rw [e2] at bd
                rw [e1] at l1
                rw [e3] at l3
                rw [e4] at l4
                have E1 := Lib.hid e1
                have E2 := Lib.hid e2
                have E3 := Lib.hid e3
                have E4 := Lib.hid e4
                have WN : IntKind.i64.wrap (-c2) = c1 := by rw [wrap_in (by omega) (by omega)]; exact tn
                clear e1 e2 e3 e4 tn bd
                by_cases g1 : c1 < 0
                · by_cases g3 : c3 < 0
                  · have g4 : c4 < 0 := l4.2 (rat_lt_trans (l3.1 g3) (l1.1 g1))
                    have d4 : decide (0 ≤ c4) = false := decide_eq_false (by omega)
                    clear l1 l3 l4
                    go_upto_region 23 with fail
                    refine region_plan (S := fun w' => w'.cell? ⟨g, off + i * 3, none⟩ = some (.bool sy) ∧ w'.cell? ⟨g, off + i * 3 + 1, none⟩ = some (.slice Ay ny cy) ∧ w'.cell? ⟨g, off + i * 3 + 2, none⟩ = some (.slice By my dy) ∧ w'.cell? ⟨g, off + k * 3, none⟩ = some (.bool sx) ∧ w'.cell? ⟨g, off + k * 3 + 1, none⟩ = some (.slice Ax nx cx) ∧ w'.cell? ⟨g, off + k * 3 + 2, none⟩ = some (.slice Bx mx dx) ∧ w'.cell? ⟨g, off, none⟩ = some (.bool sz) ∧ w'.cell? ⟨g, off + 1, none⟩ = some (.slice Az nz cz) ∧ w'.cell? ⟨g, off + 2, none⟩ = some (.slice Bz mz dz)) _ [(0, true), (1, true), (2, true), (3, true), (4, true), (5, true), (6, true), (7, true), (9, true), (10, true), (11, true), (12, true), (13, true), (14, true), (15, true), (16, true), (8, false), (17, false), (18, true), (19, true), (20, true), (21, true), (22, true), (23, true), (24, true), (25, true), (26, true), (27, true), (28, true), (29, false), (30, true), (31, true), (32, true), (33, true), (34, true), (35, true), (36, true), (37, true), (38, true), (39, false), (40, true), (41, true), (42, true), (43, true), (44, true), (45, true), (46, true), (47, true), (48, true), (49, true), (50, false), (51, true), (52, true), (53, true)] (by kernel_rfl) (by kernel_rfl) rfl (by kernel_rfl) (by kernel_rfl) (fun _ _ d _ _ h => by cases d <;> exact h) (HK.out _ (bel_drew (Below.refl _ _))) ?_
                    refine Walk.take (v := ?_) rfl (by rfl) ?_ ?_
                    rotate_left
                    · (intro w' hSw; (try dsimp only at hSw); go_simp <;> with_reducible rfl)
                    try simp only [Act.put, List.setIfInBounds_toArray, List.set_cons_zero, List.set_cons_succ]
                    refine Walk.take (v := ?_) rfl (by rfl) ?_ ?_
                    rotate_left
                    · (intro w' hSw; (try dsimp only at hSw); go_simp <;> with_reducible rfl)
                    try simp only [Act.put, List.setIfInBounds_toArray, List.set_cons_zero, List.set_cons_succ]
                    refine Walk.take (v := ?_) rfl (by rfl) ?_ ?_
                    rotate_left
                    · (intro w' hSw; (try dsimp only at hSw); go_simp <;> with_reducible rfl)
                    try simp only [Act.put, List.setIfInBounds_toArray, List.set_cons_zero, List.set_cons_succ]
                    refine Walk.take (v := ?_) rfl (by rfl) ?_ ?_
                    rotate_left
                    · (intro w' hSw; (try dsimp only at hSw); go_simp <;> with_reducible rfl)
                    try simp only [Act.put, List.setIfInBounds_toArray, List.set_cons_zero, List.set_cons_succ]
                    refine Walk.take (v := ?_) rfl (by rfl) ?_ ?_
                    rotate_left
                    · (intro w' hSw; (try dsimp only at hSw); go_simp <;> with_reducible rfl)
                    try simp only [Act.put, List.setIfInBounds_toArray, List.set_cons_zero, List.set_cons_succ]
                    refine Walk.take (v := ?_) rfl (by rfl) ?_ ?_
                    rotate_left
                    · (intro w' hSw; (try dsimp only at hSw); go_simp <;> with_reducible rfl)
                    try simp only [Act.put, List.setIfInBounds_toArray, List.set_cons_zero, List.set_cons_succ]
                    refine Walk.take (v := ?_) rfl (by rfl) ?_ ?_
                    rotate_left
                    · (intro w' hSw; (try dsimp only at hSw); go_simp <;> with_reducible rfl)
                    try simp only [Act.put, List.setIfInBounds_toArray, List.set_cons_zero, List.set_cons_succ]
                    refine Walk.take (v := ?_) rfl (by rfl) ?_ ?_
                    rotate_left
                    · (intro w' hSw; (try dsimp only at hSw); go_simp <;> with_reducible rfl)
                    try simp only [Act.put, List.setIfInBounds_toArray, List.set_cons_zero, List.set_cons_succ]
                    refine Walk.take (v := ?_) rfl (by rfl) ?_ ?_
                    rotate_left
                    · (intro w' hSw; (try dsimp only at hSw); go_simp <;> with_reducible rfl)
                    try simp only [Act.put, List.setIfInBounds_toArray, List.set_cons_zero, List.set_cons_succ]
                    refine Walk.take (v := ?_) rfl (by rfl) ?_ ?_
                    rotate_left
                    · (intro w' hSw; (try dsimp only at hSw); go_simp <;> with_reducible rfl)
                    try simp only [Act.put, List.setIfInBounds_toArray, List.set_cons_zero, List.set_cons_succ]
                    refine Walk.take (v := ?_) rfl (by rfl) ?_ ?_
                    rotate_left
                    · (intro w' hSw; (try dsimp only at hSw); go_simp <;> with_reducible rfl)
                    try simp only [Act.put, List.setIfInBounds_toArray, List.set_cons_zero, List.set_cons_succ]
                    refine Walk.take (v := ?_) rfl (by rfl) ?_ ?_
                    rotate_left
                    · (intro w' hSw; (try dsimp only at hSw); go_simp <;> with_reducible rfl)
                    try simp only [Act.put, List.setIfInBounds_toArray, List.set_cons_zero, List.set_cons_succ]
                    refine Walk.take (v := ?_) rfl (by rfl) ?_ ?_
                    rotate_left
                    · (intro w' hSw; (try dsimp only at hSw); go_simp <;> with_reducible rfl)
                    try simp only [Act.put, List.setIfInBounds_toArray, List.set_cons_zero, List.set_cons_succ]
                    refine Walk.take (v := ?_) rfl (by rfl) ?_ ?_
                    rotate_left
                    · (intro w' hSw; (try dsimp only at hSw); go_simp <;> with_reducible rfl)
                    try simp only [Act.put, List.setIfInBounds_toArray, List.set_cons_zero, List.set_cons_succ]
                    refine Walk.take (v := ?_) rfl (by rfl) ?_ ?_
                    rotate_left
                    · (intro w' hSw; (try dsimp only at hSw); go_simp <;> with_reducible rfl)
                    try simp only [Act.put, List.setIfInBounds_toArray, List.set_cons_zero, List.set_cons_succ]
                    refine Walk.take (v := ?_) rfl (by rfl) ?_ ?_
                    rotate_left
                    · (intro w' hSw; (try dsimp only at hSw); go_simp <;> with_reducible rfl)
                    try simp only [Act.put, List.setIfInBounds_toArray, List.set_cons_zero, List.set_cons_succ]
                    refine Walk.act rfl (by rfl) (fun K hK => ?_)
                    go_simp
                    go_at_call 25
                    refine (qcmp_any (w := wr.drew) (ry.below (bel_drew (Below.refl wr.heap.size wr))) (rx.below (bel_drew (Below.refl wr.heap.size wr))) (by decide) (by decide)).mono ?_
                    rw [E1.out]
                    rintro e u1 ⟨rfl, hc1⟩
                    have Y1 : Below wr.heap.size wr u1 := bel_trans (bel_drew (Below.refl wr.heap.size wr)) hc1
                    refine hK.out _ _ (HK.out _ Y1) ?_
                    clear hK K
                    try simp only [Act.put, List.setIfInBounds_toArray, List.set_cons_zero, List.set_cons_succ]
                    refine Walk.act rfl (by rfl) (fun K hK => ?_)
                    go_simp
                    go_at_call 25
                    refine (qcmp_any (w := u1) (rx.below Y1) (ry.below Y1) (by decide) (by decide)).mono ?_
                    rw [E2.out]
                    rintro e u2 ⟨rfl, hc2⟩
                    have Y2 : Below wr.heap.size wr u2 := bel_trans Y1 hc2
                    refine hK.out _ _ (HK.out _ Y2) ?_
                    clear hK K
                    try simp only [Act.put, List.setIfInBounds_toArray, List.set_cons_zero, List.set_cons_succ]
                    refine Walk.take (v := ?_) rfl (by rfl) ?_ ?_
                    rotate_left
                    · (intro w' hSw; (try dsimp only at hSw); go_simp <;> with_reducible rfl)
                    try simp only [Act.put, List.setIfInBounds_toArray, List.set_cons_zero, List.set_cons_succ]
                    refine Walk.take (v := ?_) rfl (by rfl) ?_ ?_
                    rotate_left
                    · (intro w' hSw; (try dsimp only at hSw); go_simp <;> with_reducible rfl)
                    try simp only [Act.put, List.setIfInBounds_toArray, List.set_cons_zero, List.set_cons_succ]
                    refine Walk.take (v := ?_) rfl (by rfl) ?_ ?_
                    rotate_left
                    · (intro w' hSw; (try dsimp only at hSw); go_simp <;> with_reducible rfl)
                    try simp only [Act.put, List.setIfInBounds_toArray, List.set_cons_zero, List.set_cons_succ]
                    refine Walk.take (v := ?_) rfl (by rfl) ?_ ?_
                    rotate_left
                    · (intro w' hSw; (try dsimp only at hSw); go_simp <;> with_reducible rfl)
                    try simp only [Act.put, List.setIfInBounds_toArray, List.set_cons_zero, List.set_cons_succ]
                    refine Walk.take (v := ?_) rfl (by rfl) ?_ ?_
                    rotate_left
                    · (intro w' hSw; (try dsimp only at hSw); go_simp <;> with_reducible rfl)
                    try simp only [Act.put, List.setIfInBounds_toArray, List.set_cons_zero, List.set_cons_succ]
                    refine Walk.take (v := ?_) rfl (by rfl) ?_ ?_
                    rotate_left
                    · (intro w' hSw; (try dsimp only at hSw); go_simp <;> with_reducible rfl)
                    try simp only [Act.put, List.setIfInBounds_toArray, List.set_cons_zero, List.set_cons_succ]
                    refine Walk.take (v := ?_) rfl (by rfl) ?_ ?_
                    rotate_left
                    · (intro w' hSw; (try dsimp only at hSw); go_simp <;> with_reducible rfl)
                    try simp only [Act.put, List.setIfInBounds_toArray, List.set_cons_zero, List.set_cons_succ]
                    refine Walk.take (v := ?_) rfl (by rfl) ?_ ?_
                    rotate_left
                    · (intro w' hSw; (try dsimp only at hSw); go_simp <;> with_reducible rfl)
                    try simp only [Act.put, List.setIfInBounds_toArray, List.set_cons_zero, List.set_cons_succ]
                    refine Walk.take (v := ?_) rfl (by rfl) ?_ ?_
                    rotate_left
                    · (intro w' hSw; (try dsimp only at hSw); go_simp <;> with_reducible rfl)
                    try simp only [Act.put, List.setIfInBounds_toArray, List.set_cons_zero, List.set_cons_succ]
                    refine Walk.take (v := ?_) rfl (by rfl) ?_ ?_
                    rotate_left
                    · (intro w' hSw; (try dsimp only at hSw); go_simp <;> with_reducible rfl)
                    try simp only [Act.put, List.setIfInBounds_toArray, List.set_cons_zero, List.set_cons_succ]
                    refine Walk.take (v := ?_) rfl (by rfl) ?_ ?_
                    rotate_left
                    · (intro w' hSw; (try dsimp only at hSw); go_simp <;> with_reducible rfl)
                    try simp only [Act.put, List.setIfInBounds_toArray, List.set_cons_zero, List.set_cons_succ]
                    refine Walk.act rfl (by rfl) (fun K hK => ?_)
                    go_simp
                    go_at_call 25
                    refine (qcmp_any (w := u2) (ry.below Y2) (rx.below Y2) (by decide) (by decide)).mono ?_
                    rw [E1.out]
                    rintro e u3 ⟨rfl, hc3⟩
                    have Y3 : Below wr.heap.size wr u3 := bel_trans Y2 hc3
                    refine hK.out _ _ (HK.out _ Y3) ?_
                    clear hK K
                    try simp only [Act.put, List.setIfInBounds_toArray, List.set_cons_zero, List.set_cons_succ]
                    refine Walk.take (v := ?_) rfl (by rfl) ?_ ?_
                    rotate_left
                    · (intro w' hSw; (try dsimp only at hSw); go_simp <;> with_reducible rfl)
                    try simp only [Act.put, List.setIfInBounds_toArray, List.set_cons_zero, List.set_cons_succ]
                    refine Walk.take (v := ?_) rfl (by rfl) ?_ ?_
                    rotate_left
                    · (intro w' hSw; (try dsimp only at hSw); go_simp <;> with_reducible rfl)
                    try simp only [Act.put, List.setIfInBounds_toArray, List.set_cons_zero, List.set_cons_succ]
                    refine Walk.take (v := ?_) rfl (by rfl) ?_ ?_
                    rotate_left
                    · (intro w' hSw; (try dsimp only at hSw); go_simp <;> with_reducible rfl)
                    try simp only [Act.put, List.setIfInBounds_toArray, List.set_cons_zero, List.set_cons_succ]
                    refine Walk.take (v := ?_) rfl (by rfl) ?_ ?_
                    rotate_left
                    · (intro w' hSw; (try dsimp only at hSw); go_simp <;> with_reducible rfl)
                    try simp only [Act.put, List.setIfInBounds_toArray, List.set_cons_zero, List.set_cons_succ]
                    refine Walk.take (v := ?_) rfl (by rfl) ?_ ?_
                    rotate_left
                    · (intro w' hSw; (try dsimp only at hSw); go_simp <;> with_reducible rfl)
                    try simp only [Act.put, List.setIfInBounds_toArray, List.set_cons_zero, List.set_cons_succ]
                    refine Walk.take (v := ?_) rfl (by rfl) ?_ ?_
                    rotate_left
                    · (intro w' hSw; (try dsimp only at hSw); go_simp <;> with_reducible rfl)
                    try simp only [Act.put, List.setIfInBounds_toArray, List.set_cons_zero, List.set_cons_succ]
                    refine Walk.take (v := ?_) rfl (by rfl) ?_ ?_
                    rotate_left
                    · (intro w' hSw; (try dsimp only at hSw); go_simp <;> with_reducible rfl)
                    try simp only [Act.put, List.setIfInBounds_toArray, List.set_cons_zero, List.set_cons_succ]
                    refine Walk.take (v := ?_) rfl (by rfl) ?_ ?_
                    rotate_left
                    · (intro w' hSw; (try dsimp only at hSw); go_simp <;> with_reducible rfl)
                    try simp only [Act.put, List.setIfInBounds_toArray, List.set_cons_zero, List.set_cons_succ]
                    refine Walk.take (v := ?_) rfl (by rfl) ?_ ?_
                    rotate_left
                    · (intro w' hSw; (try dsimp only at hSw); go_simp <;> with_reducible rfl)
                    try simp only [Act.put, List.setIfInBounds_toArray, List.set_cons_zero, List.set_cons_succ]
                    refine Walk.act rfl (by rfl) (fun K hK => ?_)
                    go_simp
                    go_at_call 25
                    refine (qcmp_any (w := u3) (rz.below Y3) (ry.below Y3) (by decide) (by decide)).mono ?_
                    rw [E3.out]
                    rintro e u4 ⟨rfl, hc4⟩
                    have Y4 : Below wr.heap.size wr u4 := bel_trans Y3 hc4
                    refine hK.out _ _ (HK.out _ Y4) ?_
                    clear hK K
                    try simp only [Act.put, List.setIfInBounds_toArray, List.set_cons_zero, List.set_cons_succ]
                    refine Walk.take (v := ?_) rfl (by rfl) ?_ ?_
                    rotate_left
                    · (intro w' hSw; (try dsimp only at hSw); go_simp <;> with_reducible rfl)
                    try simp only [Act.put, List.setIfInBounds_toArray, List.set_cons_zero, List.set_cons_succ]
                    refine Walk.take (v := ?_) rfl (by rfl) ?_ ?_
                    rotate_left
                    · (intro w' hSw; (try dsimp only at hSw); go_simp <;> with_reducible rfl)
                    try simp only [Act.put, List.setIfInBounds_toArray, List.set_cons_zero, List.set_cons_succ]
                    refine Walk.take (v := ?_) rfl (by rfl) ?_ ?_
                    rotate_left
                    · (intro w' hSw; (try dsimp only at hSw); go_simp <;> with_reducible rfl)
                    try simp only [Act.put, List.setIfInBounds_toArray, List.set_cons_zero, List.set_cons_succ]
                    refine Walk.take (v := ?_) rfl (by rfl) ?_ ?_
                    rotate_left
                    · (intro w' hSw; (try dsimp only at hSw); go_simp <;> with_reducible rfl)
                    try simp only [Act.put, List.setIfInBounds_toArray, List.set_cons_zero, List.set_cons_succ]
                    refine Walk.take (v := ?_) rfl (by rfl) ?_ ?_
                    rotate_left
                    · (intro w' hSw; (try dsimp only at hSw); go_simp <;> with_reducible rfl)
                    try simp only [Act.put, List.setIfInBounds_toArray, List.set_cons_zero, List.set_cons_succ]
                    refine Walk.take (v := ?_) rfl (by rfl) ?_ ?_
                    rotate_left
                    · (intro w' hSw; (try dsimp only at hSw); go_simp <;> with_reducible rfl)
                    try simp only [Act.put, List.setIfInBounds_toArray, List.set_cons_zero, List.set_cons_succ]
                    refine Walk.take (v := ?_) rfl (by rfl) ?_ ?_
                    rotate_left
                    · (intro w' hSw; (try dsimp only at hSw); go_simp <;> with_reducible rfl)
                    try simp only [Act.put, List.setIfInBounds_toArray, List.set_cons_zero, List.set_cons_succ]
                    refine Walk.take (v := ?_) rfl (by rfl) ?_ ?_
                    rotate_left
                    · (intro w' hSw; (try dsimp only at hSw); go_simp <;> with_reducible rfl)
                    try simp only [Act.put, List.setIfInBounds_toArray, List.set_cons_zero, List.set_cons_succ]
                    refine Walk.take (v := ?_) rfl (by rfl) ?_ ?_
                    rotate_left
                    · (intro w' hSw; (try dsimp only at hSw); go_simp <;> with_reducible rfl)
                    try simp only [Act.put, List.setIfInBounds_toArray, List.set_cons_zero, List.set_cons_succ]
                    refine Walk.take (v := ?_) rfl (by rfl) ?_ ?_
                    rotate_left
                    · (intro w' hSw; (try dsimp only at hSw); go_simp <;> with_reducible rfl)
                    try simp only [Act.put, List.setIfInBounds_toArray, List.set_cons_zero, List.set_cons_succ]
                    refine Walk.act rfl (by rfl) (fun K hK => ?_)
                    go_simp
                    go_at_call 25
                    refine (qcmp_any (w := u4) (rz.below Y4) (rx.below Y4) (by decide) (by decide)).mono ?_
                    rw [E4.out]
                    rintro e u5 ⟨rfl, hc5⟩
                    have Y5 : Below wr.heap.size wr u5 := bel_trans Y4 hc5
                    refine hK.out _ _ (HK.out _ Y5) ?_
                    clear hK K
                    try simp only [Act.put, List.setIfInBounds_toArray, List.set_cons_zero, List.set_cons_succ]
                    refine Walk.take (v := ?_) rfl (by rfl) ?_ ?_
                    rotate_left
                    · (intro w' hSw; (try dsimp only at hSw); go_simp <;> with_reducible rfl)
                    try simp only [Act.put, List.setIfInBounds_toArray, List.set_cons_zero, List.set_cons_succ]
                    refine Walk.take (v := ?_) rfl (by rfl) ?_ ?_
                    rotate_left
                    · (intro w' hSw; (try dsimp only at hSw); go_simp <;> with_reducible rfl)
                    try simp only [Act.put, List.setIfInBounds_toArray, List.set_cons_zero, List.set_cons_succ]
                    refine Walk.take (v := ?_) rfl (by rfl) ?_ ?_
                    rotate_left
                    · (intro w' hSw; (try dsimp only at hSw); go_simp <;> with_reducible rfl)
                    try simp only [Act.put, List.setIfInBounds_toArray, List.set_cons_zero, List.set_cons_succ]
                    refine Walk.done ?_
                    have HB2 := Lib.hid (bel_trans HB.out Y5)
                    clear HK HB
                    go_wp2_with fail
                    go_roundw
                    case rel => exact ⟨k + 1, by go_num, by omega, HB2⟩
                    case measure => simp [intOf]; omega
                  · have d3 : decide (c3 < 0) = false := decide_eq_false g3
                    clear l1 l3 l4
                    go_upto_region 23 with fail
                    refine region_plan (S := fun w' => w'.cell? ⟨g, off + i * 3, none⟩ = some (.bool sy) ∧ w'.cell? ⟨g, off + i * 3 + 1, none⟩ = some (.slice Ay ny cy) ∧ w'.cell? ⟨g, off + i * 3 + 2, none⟩ = some (.slice By my dy) ∧ w'.cell? ⟨g, off + k * 3, none⟩ = some (.bool sx) ∧ w'.cell? ⟨g, off + k * 3 + 1, none⟩ = some (.slice Ax nx cx) ∧ w'.cell? ⟨g, off + k * 3 + 2, none⟩ = some (.slice Bx mx dx) ∧ w'.cell? ⟨g, off, none⟩ = some (.bool sz) ∧ w'.cell? ⟨g, off + 1, none⟩ = some (.slice Az nz cz) ∧ w'.cell? ⟨g, off + 2, none⟩ = some (.slice Bz mz dz)) _ [(0, true), (1, true), (2, true), (3, true), (4, true), (5, true), (6, true), (7, true), (9, true), (10, true), (11, true), (12, true), (13, true), (14, true), (15, true), (16, true), (8, false), (17, false), (18, true), (19, true), (20, true), (21, true), (22, true), (23, true), (24, true), (25, true), (26, true), (27, true), (28, true), (29, false), (30, true), (31, true), (32, true), (33, true), (34, true), (35, true), (36, true), (37, true), (38, true), (39, false), (40, true), (41, true), (42, true), (43, true), (44, true), (45, true), (46, true), (47, true), (48, true), (49, true), (50, false), (51, true), (52, true), (53, true)] (by kernel_rfl) (by kernel_rfl) rfl (by kernel_rfl) (by kernel_rfl) (fun _ _ d _ _ h => by cases d <;> exact h) (HK.out _ (bel_drew (Below.refl _ _))) ?_
                    refine Walk.take (v := ?_) rfl (by rfl) ?_ ?_
                    rotate_left
                    · (intro w' hSw; (try dsimp only at hSw); go_simp <;> with_reducible rfl)
                    try simp only [Act.put, List.setIfInBounds_toArray, List.set_cons_zero, List.set_cons_succ]
                    refine Walk.take (v := ?_) rfl (by rfl) ?_ ?_
                    rotate_left
                    · (intro w' hSw; (try dsimp only at hSw); go_simp <;> with_reducible rfl)
                    try simp only [Act.put, List.setIfInBounds_toArray, List.set_cons_zero, List.set_cons_succ]
                    refine Walk.take (v := ?_) rfl (by rfl) ?_ ?_
                    rotate_left
                    · (intro w' hSw; (try dsimp only at hSw); go_simp <;> with_reducible rfl)
                    try simp only [Act.put, List.setIfInBounds_toArray, List.set_cons_zero, List.set_cons_succ]
                    refine Walk.take (v := ?_) rfl (by rfl) ?_ ?_
                    rotate_left
                    · (intro w' hSw; (try dsimp only at hSw); go_simp <;> with_reducible rfl)
                    try simp only [Act.put, List.setIfInBounds_toArray, List.set_cons_zero, List.set_cons_succ]
                    refine Walk.take (v := ?_) rfl (by rfl) ?_ ?_
                    rotate_left
                    · (intro w' hSw; (try dsimp only at hSw); go_simp <;> with_reducible rfl)
                    try simp only [Act.put, List.setIfInBounds_toArray, List.set_cons_zero, List.set_cons_succ]
                    refine Walk.take (v := ?_) rfl (by rfl) ?_ ?_
                    rotate_left
                    · (intro w' hSw; (try dsimp only at hSw); go_simp <;> with_reducible rfl)
                    try simp only [Act.put, List.setIfInBounds_toArray, List.set_cons_zero, List.set_cons_succ]
                    refine Walk.take (v := ?_) rfl (by rfl) ?_ ?_
                    rotate_left
                    · (intro w' hSw; (try dsimp only at hSw); go_simp <;> with_reducible rfl)
                    try simp only [Act.put, List.setIfInBounds_toArray, List.set_cons_zero, List.set_cons_succ]
                    refine Walk.take (v := ?_) rfl (by rfl) ?_ ?_
                    rotate_left
                    · (intro w' hSw; (try dsimp only at hSw); go_simp <;> with_reducible rfl)
                    try simp only [Act.put, List.setIfInBounds_toArray, List.set_cons_zero, List.set_cons_succ]
                    refine Walk.take (v := ?_) rfl (by rfl) ?_ ?_
                    rotate_left
                    · (intro w' hSw; (try dsimp only at hSw); go_simp <;> with_reducible rfl)
                    try simp only [Act.put, List.setIfInBounds_toArray, List.set_cons_zero, List.set_cons_succ]
                    refine Walk.take (v := ?_) rfl (by rfl) ?_ ?_
                    rotate_left
                    · (intro w' hSw; (try dsimp only at hSw); go_simp <;> with_reducible rfl)
                    try simp only [Act.put, List.setIfInBounds_toArray, List.set_cons_zero, List.set_cons_succ]
                    refine Walk.take (v := ?_) rfl (by rfl) ?_ ?_
                    rotate_left
                    · (intro w' hSw; (try dsimp only at hSw); go_simp <;> with_reducible rfl)
                    try simp only [Act.put, List.setIfInBounds_toArray, List.set_cons_zero, List.set_cons_succ]
                    refine Walk.take (v := ?_) rfl (by rfl) ?_ ?_
                    rotate_left
                    · (intro w' hSw; (try dsimp only at hSw); go_simp <;> with_reducible rfl)
                    try simp only [Act.put, List.setIfInBounds_toArray, List.set_cons_zero, List.set_cons_succ]
                    refine Walk.take (v := ?_) rfl (by rfl) ?_ ?_
                    rotate_left
                    · (intro w' hSw; (try dsimp only at hSw); go_simp <;> with_reducible rfl)
                    try simp only [Act.put, List.setIfInBounds_toArray, List.set_cons_zero, List.set_cons_succ]
                    refine Walk.take (v := ?_) rfl (by rfl) ?_ ?_
                    rotate_left
                    · (intro w' hSw; (try dsimp only at hSw); go_simp <;> with_reducible rfl)
                    try simp only [Act.put, List.setIfInBounds_toArray, List.set_cons_zero, List.set_cons_succ]
                    refine Walk.take (v := ?_) rfl (by rfl) ?_ ?_
                    rotate_left
                    · (intro w' hSw; (try dsimp only at hSw); go_simp <;> with_reducible rfl)
                    try simp only [Act.put, List.setIfInBounds_toArray, List.set_cons_zero, List.set_cons_succ]
                    refine Walk.take (v := ?_) rfl (by rfl) ?_ ?_
                    rotate_left
                    · (intro w' hSw; (try dsimp only at hSw); go_simp <;> with_reducible rfl)
                    try simp only [Act.put, List.setIfInBounds_toArray, List.set_cons_zero, List.set_cons_succ]
                    refine Walk.act rfl (by rfl) (fun K hK => ?_)
                    go_simp
                    go_at_call 25
                    refine (qcmp_any (w := wr.drew) (ry.below (bel_drew (Below.refl wr.heap.size wr))) (rx.below (bel_drew (Below.refl wr.heap.size wr))) (by decide) (by decide)).mono ?_
                    rw [E1.out]
                    rintro e u1 ⟨rfl, hc1⟩
                    have Y1 : Below wr.heap.size wr u1 := bel_trans (bel_drew (Below.refl wr.heap.size wr)) hc1
                    refine hK.out _ _ (HK.out _ Y1) ?_
                    clear hK K
                    try simp only [Act.put, List.setIfInBounds_toArray, List.set_cons_zero, List.set_cons_succ]
                    refine Walk.act rfl (by rfl) (fun K hK => ?_)
                    go_simp
                    go_at_call 25
                    refine (qcmp_any (w := u1) (rx.below Y1) (ry.below Y1) (by decide) (by decide)).mono ?_
                    rw [E2.out]
                    rintro e u2 ⟨rfl, hc2⟩
                    have Y2 : Below wr.heap.size wr u2 := bel_trans Y1 hc2
                    refine hK.out _ _ (HK.out _ Y2) ?_
                    clear hK K
                    try simp only [Act.put, List.setIfInBounds_toArray, List.set_cons_zero, List.set_cons_succ]
                    refine Walk.take (v := ?_) rfl (by rfl) ?_ ?_
                    rotate_left
                    · (intro w' hSw; (try dsimp only at hSw); go_simp <;> with_reducible rfl)
                    try simp only [Act.put, List.setIfInBounds_toArray, List.set_cons_zero, List.set_cons_succ]
                    refine Walk.take (v := ?_) rfl (by rfl) ?_ ?_
                    rotate_left
                    · (intro w' hSw; (try dsimp only at hSw); go_simp <;> with_reducible rfl)
                    try simp only [Act.put, List.setIfInBounds_toArray, List.set_cons_zero, List.set_cons_succ]
                    refine Walk.take (v := ?_) rfl (by rfl) ?_ ?_
                    rotate_left
                    · (intro w' hSw; (try dsimp only at hSw); go_simp <;> with_reducible rfl)
                    try simp only [Act.put, List.setIfInBounds_toArray, List.set_cons_zero, List.set_cons_succ]
                    refine Walk.take (v := ?_) rfl (by rfl) ?_ ?_
                    rotate_left
                    · (intro w' hSw; (try dsimp only at hSw); go_simp <;> with_reducible rfl)
                    try simp only [Act.put, List.setIfInBounds_toArray, List.set_cons_zero, List.set_cons_succ]
                    refine Walk.take (v := ?_) rfl (by rfl) ?_ ?_
                    rotate_left
                    · (intro w' hSw; (try dsimp only at hSw); go_simp <;> with_reducible rfl)
                    try simp only [Act.put, List.setIfInBounds_toArray, List.set_cons_zero, List.set_cons_succ]
                    refine Walk.take (v := ?_) rfl (by rfl) ?_ ?_
                    rotate_left
                    · (intro w' hSw; (try dsimp only at hSw); go_simp <;> with_reducible rfl)
                    try simp only [Act.put, List.setIfInBounds_toArray, List.set_cons_zero, List.set_cons_succ]
                    refine Walk.take (v := ?_) rfl (by rfl) ?_ ?_
                    rotate_left
                    · (intro w' hSw; (try dsimp only at hSw); go_simp <;> with_reducible rfl)
                    try simp only [Act.put, List.setIfInBounds_toArray, List.set_cons_zero, List.set_cons_succ]
                    refine Walk.take (v := ?_) rfl (by rfl) ?_ ?_
                    rotate_left
                    · (intro w' hSw; (try dsimp only at hSw); go_simp <;> with_reducible rfl)
                    try simp only [Act.put, List.setIfInBounds_toArray, List.set_cons_zero, List.set_cons_succ]
                    refine Walk.take (v := ?_) rfl (by rfl) ?_ ?_
                    rotate_left
                    · (intro w' hSw; (try dsimp only at hSw); go_simp <;> with_reducible rfl)
                    try simp only [Act.put, List.setIfInBounds_toArray, List.set_cons_zero, List.set_cons_succ]
                    refine Walk.take (v := ?_) rfl (by rfl) ?_ ?_
                    rotate_left
                    · (intro w' hSw; (try dsimp only at hSw); go_simp <;> with_reducible rfl)
                    try simp only [Act.put, List.setIfInBounds_toArray, List.set_cons_zero, List.set_cons_succ]
                    refine Walk.take (v := ?_) rfl (by rfl) ?_ ?_
                    rotate_left
                    · (intro w' hSw; (try dsimp only at hSw); go_simp <;> with_reducible rfl)
                    try simp only [Act.put, List.setIfInBounds_toArray, List.set_cons_zero, List.set_cons_succ]
                    refine Walk.act rfl (by rfl) (fun K hK => ?_)
                    go_simp
                    go_at_call 25
                    refine (qcmp_any (w := u2) (ry.below Y2) (rx.below Y2) (by decide) (by decide)).mono ?_
                    rw [E1.out]
                    rintro e u3 ⟨rfl, hc3⟩
                    have Y3 : Below wr.heap.size wr u3 := bel_trans Y2 hc3
                    refine hK.out _ _ (HK.out _ Y3) ?_
                    clear hK K
                    try simp only [Act.put, List.setIfInBounds_toArray, List.set_cons_zero, List.set_cons_succ]
                    refine Walk.take (v := ?_) rfl (by rfl) ?_ ?_
                    rotate_left
                    · (intro w' hSw; (try dsimp only at hSw); go_simp <;> with_reducible rfl)
                    try simp only [Act.put, List.setIfInBounds_toArray, List.set_cons_zero, List.set_cons_succ]
                    refine Walk.take (v := ?_) rfl (by rfl) ?_ ?_
                    rotate_left
                    · (intro w' hSw; (try dsimp only at hSw); go_simp <;> with_reducible rfl)
                    try simp only [Act.put, List.setIfInBounds_toArray, List.set_cons_zero, List.set_cons_succ]
                    refine Walk.take (v := ?_) rfl (by rfl) ?_ ?_
                    rotate_left
                    · (intro w' hSw; (try dsimp only at hSw); go_simp <;> with_reducible rfl)
                    try simp only [Act.put, List.setIfInBounds_toArray, List.set_cons_zero, List.set_cons_succ]
                    refine Walk.take (v := ?_) rfl (by rfl) ?_ ?_
                    rotate_left
                    · (intro w' hSw; (try dsimp only at hSw); go_simp <;> with_reducible rfl)
                    try simp only [Act.put, List.setIfInBounds_toArray, List.set_cons_zero, List.set_cons_succ]
                    refine Walk.take (v := ?_) rfl (by rfl) ?_ ?_
                    rotate_left
                    · (intro w' hSw; (try dsimp only at hSw); go_simp <;> with_reducible rfl)
                    try simp only [Act.put, List.setIfInBounds_toArray, List.set_cons_zero, List.set_cons_succ]
                    refine Walk.take (v := ?_) rfl (by rfl) ?_ ?_
                    rotate_left
                    · (intro w' hSw; (try dsimp only at hSw); go_simp <;> with_reducible rfl)
                    try simp only [Act.put, List.setIfInBounds_toArray, List.set_cons_zero, List.set_cons_succ]
                    refine Walk.take (v := ?_) rfl (by rfl) ?_ ?_
                    rotate_left
                    · (intro w' hSw; (try dsimp only at hSw); go_simp <;> with_reducible rfl)
                    try simp only [Act.put, List.setIfInBounds_toArray, List.set_cons_zero, List.set_cons_succ]
                    refine Walk.take (v := ?_) rfl (by rfl) ?_ ?_
                    rotate_left
                    · (intro w' hSw; (try dsimp only at hSw); go_simp <;> with_reducible rfl)
                    try simp only [Act.put, List.setIfInBounds_toArray, List.set_cons_zero, List.set_cons_succ]
                    refine Walk.take (v := ?_) rfl (by rfl) ?_ ?_
                    rotate_left
                    · (intro w' hSw; (try dsimp only at hSw); go_simp <;> with_reducible rfl)
                    try simp only [Act.put, List.setIfInBounds_toArray, List.set_cons_zero, List.set_cons_succ]
                    refine Walk.act rfl (by rfl) (fun K hK => ?_)
                    go_simp
                    go_at_call 25
                    refine (qcmp_any (w := u3) (rz.below Y3) (ry.below Y3) (by decide) (by decide)).mono ?_
                    rw [E3.out]
                    rintro e u4 ⟨rfl, hc4⟩
                    have Y4 : Below wr.heap.size wr u4 := bel_trans Y3 hc4
                    refine hK.out _ _ (HK.out _ Y4) ?_
                    clear hK K
                    try simp only [Act.put, List.setIfInBounds_toArray, List.set_cons_zero, List.set_cons_succ]
                    refine Walk.take (v := ?_) rfl (by rfl) ?_ ?_
                    rotate_left
                    · (intro w' hSw; (try dsimp only at hSw); go_simp <;> with_reducible rfl)
                    try simp only [Act.put, List.setIfInBounds_toArray, List.set_cons_zero, List.set_cons_succ]
                    refine Walk.take (v := ?_) rfl (by rfl) ?_ ?_
                    rotate_left
                    · (intro w' hSw; (try dsimp only at hSw); go_simp <;> with_reducible rfl)
                    try simp only [Act.put, List.setIfInBounds_toArray, List.set_cons_zero, List.set_cons_succ]
                    refine Walk.take (v := ?_) rfl (by rfl) ?_ ?_
                    rotate_left
                    · (intro w' hSw; (try dsimp only at hSw); go_simp <;> with_reducible rfl)
                    try simp only [Act.put, List.setIfInBounds_toArray, List.set_cons_zero, List.set_cons_succ]
                    refine Walk.skip rfl (by rfl) ?_
                    try simp only [Act.put, List.setIfInBounds_toArray, List.set_cons_zero, List.set_cons_succ]
                    refine Walk.skip rfl (by rfl) ?_
                    try simp only [Act.put, List.setIfInBounds_toArray, List.set_cons_zero, List.set_cons_succ]
                    refine Walk.skip rfl (by rfl) ?_
                    try simp only [Act.put, List.setIfInBounds_toArray, List.set_cons_zero, List.set_cons_succ]
                    refine Walk.skip rfl (by rfl) ?_
                    try simp only [Act.put, List.setIfInBounds_toArray, List.set_cons_zero, List.set_cons_succ]
                    refine Walk.skip rfl (by rfl) ?_
                    try simp only [Act.put, List.setIfInBounds_toArray, List.set_cons_zero, List.set_cons_succ]
                    refine Walk.skip rfl (by rfl) ?_
                    try simp only [Act.put, List.setIfInBounds_toArray, List.set_cons_zero, List.set_cons_succ]
                    refine Walk.skip rfl (by rfl) ?_
                    try simp only [Act.put, List.setIfInBounds_toArray, List.set_cons_zero, List.set_cons_succ]
                    refine Walk.pass rfl (by rfl) (HK.out _ Y4) ?_
                    try simp only [Act.put, List.setIfInBounds_toArray, List.set_cons_zero, List.set_cons_succ]
                    refine Walk.skip rfl (by rfl) ?_
                    try simp only [Act.put, List.setIfInBounds_toArray, List.set_cons_zero, List.set_cons_succ]
                    refine Walk.take (v := ?_) rfl (by rfl) ?_ ?_
                    rotate_left
                    · (intro w' hSw; (try dsimp only at hSw); go_simp <;> with_reducible rfl)
                    try simp only [Act.put, List.setIfInBounds_toArray, List.set_cons_zero, List.set_cons_succ]
                    refine Walk.take (v := ?_) rfl (by rfl) ?_ ?_
                    rotate_left
                    · (intro w' hSw; (try dsimp only at hSw); go_simp <;> with_reducible rfl)
                    try simp only [Act.put, List.setIfInBounds_toArray, List.set_cons_zero, List.set_cons_succ]
                    refine Walk.done ?_
                    have HB2 := Lib.hid (bel_trans HB.out Y4)
                    clear HK HB
                    go_wp2_with fail
                    go_roundw
                    case rel => exact ⟨k + 1, by go_num, by omega, HB2⟩
                    case measure => simp [intOf]; omega
                · have d1 : decide (c1 < 0) = false := decide_eq_false g1
                  clear l1 l3 l4
                  go_upto_region 23 with fail
                  refine region_plan (S := fun w' => w'.cell? ⟨g, off + i * 3, none⟩ = some (.bool sy) ∧ w'.cell? ⟨g, off + i * 3 + 1, none⟩ = some (.slice Ay ny cy) ∧ w'.cell? ⟨g, off + i * 3 + 2, none⟩ = some (.slice By my dy) ∧ w'.cell? ⟨g, off + k * 3, none⟩ = some (.bool sx) ∧ w'.cell? ⟨g, off + k * 3 + 1, none⟩ = some (.slice Ax nx cx) ∧ w'.cell? ⟨g, off + k * 3 + 2, none⟩ = some (.slice Bx mx dx) ∧ w'.cell? ⟨g, off, none⟩ = some (.bool sz) ∧ w'.cell? ⟨g, off + 1, none⟩ = some (.slice Az nz cz) ∧ w'.cell? ⟨g, off + 2, none⟩ = some (.slice Bz mz dz)) _ [(0, true), (1, true), (2, true), (3, true), (4, true), (5, true), (6, true), (7, true), (9, true), (10, true), (11, true), (12, true), (13, true), (14, true), (15, true), (16, true), (8, false), (17, false), (18, true), (19, true), (20, true), (21, true), (22, true), (23, true), (24, true), (25, true), (26, true), (27, true), (28, true), (29, false), (30, true), (31, true), (32, true), (33, true), (34, true), (35, true), (36, true), (37, true), (38, true), (39, false), (40, true), (41, true), (42, true), (43, true), (44, true), (45, true), (46, true), (47, true), (48, true), (49, true), (50, false), (51, true), (52, true), (53, true)] (by kernel_rfl) (by kernel_rfl) rfl (by kernel_rfl) (by kernel_rfl) (fun _ _ d _ _ h => by cases d <;> exact h) (HK.out _ (bel_drew (Below.refl _ _))) ?_
                  refine Walk.take (v := ?_) rfl (by rfl) ?_ ?_
                  rotate_left
                  · (intro w' hSw; (try dsimp only at hSw); go_simp <;> with_reducible rfl)
                  try simp only [Act.put, List.setIfInBounds_toArray, List.set_cons_zero, List.set_cons_succ]
                  refine Walk.take (v := ?_) rfl (by rfl) ?_ ?_
                  rotate_left
                  · (intro w' hSw; (try dsimp only at hSw); go_simp <;> with_reducible rfl)
                  try simp only [Act.put, List.setIfInBounds_toArray, List.set_cons_zero, List.set_cons_succ]
                  refine Walk.take (v := ?_) rfl (by rfl) ?_ ?_
                  rotate_left
                  · (intro w' hSw; (try dsimp only at hSw); go_simp <;> with_reducible rfl)
                  try simp only [Act.put, List.setIfInBounds_toArray, List.set_cons_zero, List.set_cons_succ]
                  refine Walk.take (v := ?_) rfl (by rfl) ?_ ?_
                  rotate_left
                  · (intro w' hSw; (try dsimp only at hSw); go_simp <;> with_reducible rfl)
                  try simp only [Act.put, List.setIfInBounds_toArray, List.set_cons_zero, List.set_cons_succ]
                  refine Walk.take (v := ?_) rfl (by rfl) ?_ ?_
                  rotate_left
                  · (intro w' hSw; (try dsimp only at hSw); go_simp <;> with_reducible rfl)
                  try simp only [Act.put, List.setIfInBounds_toArray, List.set_cons_zero, List.set_cons_succ]
                  refine Walk.take (v := ?_) rfl (by rfl) ?_ ?_
                  rotate_left
                  · (intro w' hSw; (try dsimp only at hSw); go_simp <;> with_reducible rfl)
                  try simp only [Act.put, List.setIfInBounds_toArray, List.set_cons_zero, List.set_cons_succ]
                  refine Walk.take (v := ?_) rfl (by rfl) ?_ ?_
                  rotate_left
                  · (intro w' hSw; (try dsimp only at hSw); go_simp <;> with_reducible rfl)
                  try simp only [Act.put, List.setIfInBounds_toArray, List.set_cons_zero, List.set_cons_succ]
                  refine Walk.take (v := ?_) rfl (by rfl) ?_ ?_
                  rotate_left
                  · (intro w' hSw; (try dsimp only at hSw); go_simp <;> with_reducible rfl)
                  try simp only [Act.put, List.setIfInBounds_toArray, List.set_cons_zero, List.set_cons_succ]
                  refine Walk.take (v := ?_) rfl (by rfl) ?_ ?_
                  rotate_left
                  · (intro w' hSw; (try dsimp only at hSw); go_simp <;> with_reducible rfl)
                  try simp only [Act.put, List.setIfInBounds_toArray, List.set_cons_zero, List.set_cons_succ]
                  refine Walk.take (v := ?_) rfl (by rfl) ?_ ?_
                  rotate_left
                  · (intro w' hSw; (try dsimp only at hSw); go_simp <;> with_reducible rfl)
                  try simp only [Act.put, List.setIfInBounds_toArray, List.set_cons_zero, List.set_cons_succ]
                  refine Walk.take (v := ?_) rfl (by rfl) ?_ ?_
                  rotate_left
                  · (intro w' hSw; (try dsimp only at hSw); go_simp <;> with_reducible rfl)
                  try simp only [Act.put, List.setIfInBounds_toArray, List.set_cons_zero, List.set_cons_succ]
                  refine Walk.take (v := ?_) rfl (by rfl) ?_ ?_
                  rotate_left
                  · (intro w' hSw; (try dsimp only at hSw); go_simp <;> with_reducible rfl)
                  try simp only [Act.put, List.setIfInBounds_toArray, List.set_cons_zero, List.set_cons_succ]
                  refine Walk.take (v := ?_) rfl (by rfl) ?_ ?_
                  rotate_left
                  · (intro w' hSw; (try dsimp only at hSw); go_simp <;> with_reducible rfl)
                  try simp only [Act.put, List.setIfInBounds_toArray, List.set_cons_zero, List.set_cons_succ]
                  refine Walk.take (v := ?_) rfl (by rfl) ?_ ?_
                  rotate_left
                  · (intro w' hSw; (try dsimp only at hSw); go_simp <;> with_reducible rfl)
                  try simp only [Act.put, List.setIfInBounds_toArray, List.set_cons_zero, List.set_cons_succ]
                  refine Walk.take (v := ?_) rfl (by rfl) ?_ ?_
                  rotate_left
                  · (intro w' hSw; (try dsimp only at hSw); go_simp <;> with_reducible rfl)
                  try simp only [Act.put, List.setIfInBounds_toArray, List.set_cons_zero, List.set_cons_succ]
                  refine Walk.take (v := ?_) rfl (by rfl) ?_ ?_
                  rotate_left
                  · (intro w' hSw; (try dsimp only at hSw); go_simp <;> with_reducible rfl)
                  try simp only [Act.put, List.setIfInBounds_toArray, List.set_cons_zero, List.set_cons_succ]
                  refine Walk.act rfl (by rfl) (fun K hK => ?_)
                  go_simp
                  go_at_call 25
                  refine (qcmp_any (w := wr.drew) (ry.below (bel_drew (Below.refl wr.heap.size wr))) (rx.below (bel_drew (Below.refl wr.heap.size wr))) (by decide) (by decide)).mono ?_
                  rw [E1.out]
                  rintro e u1 ⟨rfl, hc1⟩
                  have Y1 : Below wr.heap.size wr u1 := bel_trans (bel_drew (Below.refl wr.heap.size wr)) hc1
                  refine hK.out _ _ (HK.out _ Y1) ?_
                  clear hK K
                  try simp only [Act.put, List.setIfInBounds_toArray, List.set_cons_zero, List.set_cons_succ]
                  refine Walk.act rfl (by rfl) (fun K hK => ?_)
                  go_simp
                  go_at_call 25
                  refine (qcmp_any (w := u1) (rx.below Y1) (ry.below Y1) (by decide) (by decide)).mono ?_
                  rw [E2.out]
                  rintro e u2 ⟨rfl, hc2⟩
                  have Y2 : Below wr.heap.size wr u2 := bel_trans Y1 hc2
                  refine hK.out _ _ (HK.out _ Y2) ?_
                  clear hK K
                  try simp only [Act.put, List.setIfInBounds_toArray, List.set_cons_zero, List.set_cons_succ]
                  refine Walk.take (v := ?_) rfl (by rfl) ?_ ?_
                  rotate_left
                  · (intro w' hSw; (try dsimp only at hSw); go_simp <;> with_reducible rfl)
                  try simp only [Act.put, List.setIfInBounds_toArray, List.set_cons_zero, List.set_cons_succ]
                  refine Walk.take (v := ?_) rfl (by rfl) ?_ ?_
                  rotate_left
                  · (intro w' hSw; (try dsimp only at hSw); go_simp <;> with_reducible rfl)
                  try simp only [Act.put, List.setIfInBounds_toArray, List.set_cons_zero, List.set_cons_succ]
                  refine Walk.take (v := ?_) rfl (by rfl) ?_ ?_
                  rotate_left
                  · (intro w' hSw; (try dsimp only at hSw); go_simp <;> with_reducible rfl)
                  try simp only [Act.put, List.setIfInBounds_toArray, List.set_cons_zero, List.set_cons_succ]
                  refine Walk.take (v := ?_) rfl (by rfl) ?_ ?_
                  rotate_left
                  · (intro w' hSw; (try dsimp only at hSw); go_simp <;> with_reducible rfl)
                  try simp only [Act.put, List.setIfInBounds_toArray, List.set_cons_zero, List.set_cons_succ]
                  refine Walk.take (v := ?_) rfl (by rfl) ?_ ?_
                  rotate_left
                  · (intro w' hSw; (try dsimp only at hSw); go_simp <;> with_reducible rfl)
                  try simp only [Act.put, List.setIfInBounds_toArray, List.set_cons_zero, List.set_cons_succ]
                  refine Walk.take (v := ?_) rfl (by rfl) ?_ ?_
                  rotate_left
                  · (intro w' hSw; (try dsimp only at hSw); go_simp <;> with_reducible rfl)
                  try simp only [Act.put, List.setIfInBounds_toArray, List.set_cons_zero, List.set_cons_succ]
                  refine Walk.take (v := ?_) rfl (by rfl) ?_ ?_
                  rotate_left
                  · (intro w' hSw; (try dsimp only at hSw); go_simp <;> with_reducible rfl)
                  try simp only [Act.put, List.setIfInBounds_toArray, List.set_cons_zero, List.set_cons_succ]
                  refine Walk.take (v := ?_) rfl (by rfl) ?_ ?_
                  rotate_left
                  · (intro w' hSw; (try dsimp only at hSw); go_simp <;> with_reducible rfl)
                  try simp only [Act.put, List.setIfInBounds_toArray, List.set_cons_zero, List.set_cons_succ]
                  refine Walk.take (v := ?_) rfl (by rfl) ?_ ?_
                  rotate_left
                  · (intro w' hSw; (try dsimp only at hSw); go_simp <;> with_reducible rfl)
                  try simp only [Act.put, List.setIfInBounds_toArray, List.set_cons_zero, List.set_cons_succ]
                  refine Walk.take (v := ?_) rfl (by rfl) ?_ ?_
                  rotate_left
                  · (intro w' hSw; (try dsimp only at hSw); go_simp <;> with_reducible rfl)
                  try simp only [Act.put, List.setIfInBounds_toArray, List.set_cons_zero, List.set_cons_succ]
                  refine Walk.take (v := ?_) rfl (by rfl) ?_ ?_
                  rotate_left
                  · (intro w' hSw; (try dsimp only at hSw); go_simp <;> with_reducible rfl)
                  try simp only [Act.put, List.setIfInBounds_toArray, List.set_cons_zero, List.set_cons_succ]
                  refine Walk.act rfl (by rfl) (fun K hK => ?_)
                  go_simp
                  go_at_call 25
                  refine (qcmp_any (w := u2) (ry.below Y2) (rx.below Y2) (by decide) (by decide)).mono ?_
                  rw [E1.out]
                  rintro e u3 ⟨rfl, hc3⟩
                  have Y3 : Below wr.heap.size wr u3 := bel_trans Y2 hc3
                  refine hK.out _ _ (HK.out _ Y3) ?_
                  clear hK K
                  try simp only [Act.put, List.setIfInBounds_toArray, List.set_cons_zero, List.set_cons_succ]
                  refine Walk.take (v := ?_) rfl (by rfl) ?_ ?_
                  rotate_left
                  · (intro w' hSw; (try dsimp only at hSw); go_simp <;> with_reducible rfl)
                  try simp only [Act.put, List.setIfInBounds_toArray, List.set_cons_zero, List.set_cons_succ]
                  refine Walk.take (v := ?_) rfl (by rfl) ?_ ?_
                  rotate_left
                  · (intro w' hSw; (try dsimp only at hSw); go_simp <;> with_reducible rfl)
                  try simp only [Act.put, List.setIfInBounds_toArray, List.set_cons_zero, List.set_cons_succ]
                  refine Walk.skip rfl (by rfl) ?_
                  try simp only [Act.put, List.setIfInBounds_toArray, List.set_cons_zero, List.set_cons_succ]
                  refine Walk.skip rfl (by rfl) ?_
                  try simp only [Act.put, List.setIfInBounds_toArray, List.set_cons_zero, List.set_cons_succ]
                  refine Walk.skip rfl (by rfl) ?_
                  try simp only [Act.put, List.setIfInBounds_toArray, List.set_cons_zero, List.set_cons_succ]
                  refine Walk.skip rfl (by rfl) ?_
                  try simp only [Act.put, List.setIfInBounds_toArray, List.set_cons_zero, List.set_cons_succ]
                  refine Walk.skip rfl (by rfl) ?_
                  try simp only [Act.put, List.setIfInBounds_toArray, List.set_cons_zero, List.set_cons_succ]
                  refine Walk.skip rfl (by rfl) ?_
                  try simp only [Act.put, List.setIfInBounds_toArray, List.set_cons_zero, List.set_cons_succ]
                  refine Walk.skip rfl (by rfl) ?_
                  try simp only [Act.put, List.setIfInBounds_toArray, List.set_cons_zero, List.set_cons_succ]
                  refine Walk.pass rfl (by rfl) (HK.out _ Y3) ?_
                  try simp only [Act.put, List.setIfInBounds_toArray, List.set_cons_zero, List.set_cons_succ]
                  refine Walk.skip rfl (by rfl) ?_
                  try simp only [Act.put, List.setIfInBounds_toArray, List.set_cons_zero, List.set_cons_succ]
                  refine Walk.take (v := ?_) rfl (by rfl) ?_ ?_
                  rotate_left
                  · (intro w' hSw; (try dsimp only at hSw); go_simp <;> with_reducible rfl)
                  try simp only [Act.put, List.setIfInBounds_toArray, List.set_cons_zero, List.set_cons_succ]
                  refine Walk.take (v := ?_) rfl (by rfl) ?_ ?_
                  rotate_left
                  · (intro w' hSw; (try dsimp only at hSw); go_simp <;> with_reducible rfl)
                  try simp only [Act.put, List.setIfInBounds_toArray, List.set_cons_zero, List.set_cons_succ]
                  refine Walk.skip rfl (by rfl) ?_
                  try simp only [Act.put, List.setIfInBounds_toArray, List.set_cons_zero, List.set_cons_succ]
                  refine Walk.skip rfl (by rfl) ?_
                  try simp only [Act.put, List.setIfInBounds_toArray, List.set_cons_zero, List.set_cons_succ]
                  refine Walk.skip rfl (by rfl) ?_
                  try simp only [Act.put, List.setIfInBounds_toArray, List.set_cons_zero, List.set_cons_succ]
                  refine Walk.skip rfl (by rfl) ?_
                  try simp only [Act.put, List.setIfInBounds_toArray, List.set_cons_zero, List.set_cons_succ]
                  refine Walk.skip rfl (by rfl) ?_
                  try simp only [Act.put, List.setIfInBounds_toArray, List.set_cons_zero, List.set_cons_succ]
                  refine Walk.skip rfl (by rfl) ?_
                  try simp only [Act.put, List.setIfInBounds_toArray, List.set_cons_zero, List.set_cons_succ]
                  refine Walk.skip rfl (by rfl) ?_
                  try simp only [Act.put, List.setIfInBounds_toArray, List.set_cons_zero, List.set_cons_succ]
                  refine Walk.pass rfl (by rfl) (HK.out _ Y3) ?_
                  try simp only [Act.put, List.setIfInBounds_toArray, List.set_cons_zero, List.set_cons_succ]
                  refine Walk.skip rfl (by rfl) ?_
                  try simp only [Act.put, List.setIfInBounds_toArray, List.set_cons_zero, List.set_cons_succ]
                  refine Walk.take (v := ?_) rfl (by rfl) ?_ ?_
                  rotate_left
                  · (intro w' hSw; (try dsimp only at hSw); go_simp <;> with_reducible rfl)
                  try simp only [Act.put, List.setIfInBounds_toArray, List.set_cons_zero, List.set_cons_succ]
                  refine Walk.take (v := ?_) rfl (by rfl) ?_ ?_
                  rotate_left
                  · (intro w' hSw; (try dsimp only at hSw); go_simp <;> with_reducible rfl)
                  try simp only [Act.put, List.setIfInBounds_toArray, List.set_cons_zero, List.set_cons_succ]
                  refine Walk.done ?_
                  have HB2 := Lib.hid (bel_trans HB.out Y3)
                  clear HK HB
                  go_wp2_with fail
                  go_roundw
                  case rel => exact ⟨k + 1, by go_num, by omega, HB2⟩
                  case measure => simp [intOf]; omega
              · go_wp2_with fail
                go_roundw
                case rel => exact ⟨i + 1, _, rfl, by go_num, by omega, fun _ _ _ => rfl, HB⟩
                case measure => simp [intOf]; omega
        · obtain rfl : i = n := by omega
          obtain rfl := TH.out km hkm rfl
          go_wp2_with fail
          go_ret
          exact ⟨rfl, bel_trans H4.out HB.out⟩
end Go.Proofs.YtaollppieonmbaaDoor
