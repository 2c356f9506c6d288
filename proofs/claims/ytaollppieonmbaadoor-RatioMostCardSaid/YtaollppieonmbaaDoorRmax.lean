/-
  Contracts of slices.MaxFunc at fractions by Cmp, and of ratio's Max. Conditions: at most 1000 fractions, their parts of at most 2^16 words; the table of math/bits stands in its variable.
-/
import Derived.Test.YtaollppieonmbaaDoorRops
namespace Go.Proofs.YtaollppieonmbaaDoor
open Go.RowKit
set_option maxRecDepth 100000

/-- The slice's address leads to the fractions vs, three cells each. -/
def RdR (w : World) (A : Option Addr) (vs : List (Value × Value × Value)) : Prop :=
  vs = [] ∨ ∃ g off, A = some ⟨g, off, none⟩ ∧ g < w.heap.size ∧ ∀ i v, vs[i]? = some v → w.cell? ⟨g, off + i * 3, none⟩ = some v.1 ∧ w.cell? ⟨g, off + i * 3 + 1, none⟩ = some v.2.1 ∧ w.cell? ⟨g, off + i * 3 + 2, none⟩ = some v.2.2
/-- Each is a fraction, the i-th one f i. -/
def AllR (w : World) (vs : List (Value × Value × Value)) (L : Nat) (f : Nat → Rat) : Prop := ∀ i v, vs[i]? = some v → RV w v.1 v.2.1 v.2.2 L (f i)
theorem RdR.below {w w' : World} {A : Option Addr} {vs : List (Value × Value × Value)} (h : RdR w A vs) (hb : Below w.heap.size w w') : RdR w' A vs := by
  rcases h with h | ⟨g, off, e, hg, hc⟩
  · exact .inl h
  · refine .inr ⟨g, off, e, Nat.lt_of_lt_of_le hg hb.size, fun i v hi => ?_⟩
    obtain ⟨a, b, c⟩ := hc i v hi
    exact ⟨(hb.cell (p := ⟨g, off + i * 3, none⟩) hg).trans a, (hb.cell (p := ⟨g, off + i * 3 + 1, none⟩) hg).trans b, (hb.cell (p := ⟨g, off + i * 3 + 2, none⟩) hg).trans c⟩
theorem AllR.below {w w' : World} {vs : List (Value × Value × Value)} {L : Nat} {f : Nat → Rat} (h : AllR w vs L f) (hb : Below w.heap.size w w') : AllR w' vs L f := fun i v hi => (h i v hi).below hb
theorem RdR.at_ {w : World} {g off : Nat} {vs : List (Value × Value × Value)} (h : RdR w (some ⟨g, off, none⟩) vs) {i : Nat} {v : Value × Value × Value} (hi : vs[i]? = some v) : w.cell? ⟨g, off + i * 3, none⟩ = some v.1 ∧ w.cell? ⟨g, off + i * 3 + 1, none⟩ = some v.2.1 ∧ w.cell? ⟨g, off + i * 3 + 2, none⟩ = some v.2.2 := by
  rcases h with h | ⟨g', off', e, hg, hc⟩
  · subst h; simp at hi
  · injection e with e
    injection e with e1 e2
    subst e1 e2
    exact hc i v hi

theorem kp_c {W w1 : World} {p : Addr} {a : Value} (hb : Below W.heap.size W w1) (h : W.cell? p = some a) : w1.cell? p = some a := (hb.cell (World.block_lt_of_cell? _ _ h)).trans h
theorem kp6 {W w1 : World} {p q r s t u : Addr} {a b c d e f : Value} (hb : Below W.heap.size W w1) (h1 : W.cell? p = some a) (h2 : W.cell? q = some b) (h3 : W.cell? r = some c) (h4 : W.cell? s = some d) (h5 : W.cell? t = some e) (h6 : W.cell? u = some f) :
    w1.cell? p = some a ∧ w1.cell? q = some b ∧ w1.cell? r = some c ∧ w1.cell? s = some d ∧ w1.cell? t = some e ∧ w1.cell? u = some f :=
  ⟨kp_c hb h1, kp_c hb h2, kp_c hb h3, kp_c hb h4, kp_c hb h5, kp_c hb h6⟩

set_option maxHeartbeats 4000000 in
theorem maxFunc_any {w : World} {g off n c : Nat} {vs : List (Value × Value × Value)} {L : Nat} {f : Nat → Rat} (hn : vs.length = n) (h1 : 1 ≤ n) (h2 : n ≤ 1000) (hc : n ≤ c) (hr : RdR w (some ⟨g, off, none⟩) vs) (ha : AllR w vs L f) (hL : L ≤ 65536) :
    Calls Tryd.prog 60 #[.slice (some ⟨g, off, none⟩) n c, .func (.func 25) #[] #[]] w fun e w' => (∃ k v, vs[k]? = some v ∧ e = .returned (.agg #[v.1, v.2.1, v.2.2]) ∧ ∀ i, i < n → f i ≤ f k) ∧ Below w.heap.size w w' := by
  have HN := Lib.hid hn
  have hg : g < w.heap.size := by
    rcases hr with h | ⟨g', off', e, hg, _⟩
    · subst h; simp at hn; omega
    · injection e with e; injection e with e1 e2; omega
  obtain ⟨v0, hv0⟩ : ∃ v, vs[0]? = some v := ⟨_, List.getElem?_eq_getElem (by omega)⟩
  obtain ⟨a0, a1, a2⟩ := hr.at_ hv0
  obtain ⟨s0, A0, n0, k0, B0, m0, l0, e1, e2, e3⟩ := (ha 0 v0 hv0).form
  obtain ⟨x0, y0, z0⟩ := v0
  simp only at e1 e2 e3 a0 a1 a2
  subst e1 e2 e3
  rw [Nat.zero_mul, Nat.add_zero] at a0 a1 a2
  have HV0 := Lib.hid hv0
  have hlt1 : ¬ (n : Int) < 1 := by omega
  clear hn hv0
  have h0n : (0 : Int) < (n : Int) := by omega
  go_enter Tryd.func60, Tryd.ntmps60
  go_wp2_with fail
  go_loopw [6] (fun s6 wr => ∃ (i k : Nat) (v : Value × Value × Value), s6 = .int .i64 (i : Int) ∧ 1 ≤ i ∧ i ≤ n ∧ vs[k]? = some v ∧ Hid (∀ j, j < i → f j ≤ f k) ∧ Blk wr (w.heap.size + 1) 25 #[v.1, v.2.1, v.2.2] ∧ Blk wr w.heap.size 25 #[.bool false, .slice none 0 0, .slice none 0 0] ∧ Hid (Below w.heap.size w wr)) (fun s6 _ => n - (intOf s6).toNat)
  case atStart =>
    refine ⟨1, 0, _, rfl, by omega, by omega, HV0.out, fun j hj => ?_, ?_, ?_, ?_⟩
    · obtain rfl : j = 0 := by omega
      exact Rat.le_refl
    · exact Blk.in22 (Below.refl _ _)
    · exact Blk.in21 (Below.refl _ _)
    · exact bel_2 _ _ _
  case round =>
    obtain ⟨i, k, v, rfl, hi1, hi2, hv, HF, KM, KR, HB⟩ := hrel
    clear a0 a1 a2 HV0
    have hrm := (ha k v hv).below HB.out
    obtain ⟨s0, A0, n0, k0, B0, m0, l0, e1, e2, e3⟩ := hrm.form
    obtain ⟨x0, y0, z0⟩ := v
    simp only at e1 e2 e3 hrm KM
    subst e1 e2 e3
    by_cases hin : i < n
    · obtain ⟨u, hu⟩ : ∃ u, vs[i]? = some u := ⟨_, List.getElem?_eq_getElem (by rw [HN.out]; exact hin)⟩
      have hru := (ha i u hu).below HB.out
      obtain ⟨a0, a1, a2⟩ := (hr.below HB.out).at_ hu
      obtain ⟨s1, A1, n1, k1, B1, m1, l1, e1, e2, e3⟩ := hru.form
      obtain ⟨x1, y1, z1⟩ := u
      simp only at e1 e2 e3 hru a0 a1 a2
      subst e1 e2 e3
      have hi0 : (0 : Int) ≤ (i : Int) := by omega
      have hil : (i : Int) < (n : Int) := by omega
      have hgr : g < wr.heap.size := Nat.lt_of_lt_of_le hg HB.out.size
      have HV := Lib.hid hv
      have HU := Lib.hid hu
      clear hv hu
      have C := fun (W : World) (hW : Below wr.heap.size wr W) => qcmp_any (hru.below hW) (hrm.below hW) hL hL
      have CB := cmp_bd (f i) (f k)
      obtain ⟨cc, hcc⟩ : ∃ cc, cmpR (f i) (f k) = cc := ⟨_, rfl⟩
      rw [hcc] at C CB
      have CC := Lib.hid hcc
      clear hcc
      have HC := Lib.hid C
      clear C hru hrm
      obtain ⟨b0, b1, b2, -, -, -⟩ := KM.three
      go_upto_region 7 with fail
      go_region_held3 (fun w' => w'.cell? ⟨g, off + i * 3, none⟩ = some (.bool s1) ∧ w'.cell? ⟨g, off + i * 3 + 1, none⟩ = some (.slice A1 n1 k1) ∧ w'.cell? ⟨g, off + i * 3 + 2, none⟩ = some (.slice B1 m1 l1) ∧ w'.cell? ⟨w.heap.size + 1, 0, none⟩ = some (.bool s0) ∧ w'.cell? ⟨w.heap.size + 1, 1, none⟩ = some (.slice A0 n0 k0) ∧ w'.cell? ⟨w.heap.size + 1, 2, none⟩ = some (.slice B0 m0 l0))
        ((refine kp6 (W := wr) ?_ a0 a1 a2 b0 b1 b2; (repeat (first | exact Below.refl _ _ | exact X1 | refine bel_drew ?_)); done))
        (first
          | (go_at_call 25; refine (HC.out wr.drew (bel_drew (Below.refl _ _))).mono ?_; rintro e w1 ⟨rfl, hb1⟩; have X1 : Below wr.heap.size wr w1 := bel_trans (bel_drew (Below.refl _ _)) hb1))
      have HB1 := Lib.hid (bel_trans HB.out X1)
      have KM1 := KM.below X1 KM.lt
      have KR1 := KR.below X1 KR.lt
      have d0 := kp_c X1 a0
      have d1 := kp_c X1 a1
      have d2 := kp_c X1 a2
      clear a0 a1 a2 b0 b1 b2 KM KR HB HC
      by_cases hgt : 0 < cc
      · have NF : Hid (∀ j, j < i + 1 → f j ≤ f i) := by
          intro j hj
          have hlt := cmp_gt.1 (show cmpR (f i) (f k) = 1 by rw [CC.out]; omega)
          rcases Nat.lt_or_ge j i with h | h
          · exact Rat.le_trans (HF.out j h) (Rat.le_of_lt hlt)
          · obtain rfl : j = i := by omega
            exact Rat.le_refl
        obtain ⟨b0, b1, b2, f0, f1, f2⟩ := KM1.three
        clear CC HF HV
        go_wp2_with fail
        have KM2 := KM1.put3 (.bool s1) (.slice A1 n1 k1) (.slice B1 m1 l1)
        have KR2 := KR1.put3_far (g := w.heap.size + 1) (by omega) (.bool s1) (.slice A1 n1 k1) (.slice B1 m1 l1)
        have HB2 := Lib.hid (bel_put3 (g := w.heap.size + 1) HB1.out (by omega) (.bool s1) (.slice A1 n1 k1) (.slice B1 m1 l1))
        unfold wput at KM2 KR2 HB2
        go_roundw
        case rel => exact ⟨i + 1, i, _, by go_num, by omega, by omega, HU.out, NF, KM2, KR2, HB2⟩
        case measure => simp [intOf]; omega
      · have NF : Hid (∀ j, j < i + 1 → f j ≤ f k) := by
          intro j hj
          rcases Nat.lt_or_ge j i with h | h
          · exact HF.out j h
          · obtain rfl : j = i := by omega
            rcases cmp_cases (f j) (f k) with h | h | h
            · exact Rat.le_of_lt (cmp_lt.1 h)
            · rw [cmp_eq.1 h]; exact Rat.le_refl
            · rw [CC.out] at h; omega
        clear CC HF HU d0 d1 d2
        go_wp2_with fail
        go_roundw
        case rel => exact ⟨i + 1, k, _, by go_num, by omega, by omega, HV.out, NF, KM1, KR1, HB1⟩
        case measure => simp [intOf]; omega
    · obtain rfl : i = n := by omega
      have HV := Lib.hid hv
      obtain ⟨b0, b1, b2, -, -, -⟩ := KM.three
      obtain ⟨c0, c1, c2, f0, f1, f2⟩ := KR.three
      clear hrm hv
      go_wp2_with fail
      have K5 := KR.put3 (.bool s0) (.slice A0 n0 k0) (.slice B0 m0 l0)
      have B5 := Lib.hid (bel_put3 HB.out (Nat.le_refl _) (.bool s0) (.slice A0 n0 k0) (.slice B0 m0 l0))
      unfold wput at K5 B5
      clear c0 c1 c2 f0 f1 f2 b0 b1 b2 KR HB
      obtain ⟨c0, c1, c2, -, -, -⟩ := K5.three
      try simp only [Exit.inBlock, Exit.then]
      exact bodyPost_ret (v := .agg #[.bool s0, .slice A0 n0 k0, .slice B0 m0 l0]) (by simp [results, Tryd.results60, go_sem, c0, c1, c2]) rfl ⟨⟨k, _, HV.out, rfl, HF.out⟩, B5.out⟩
set_option maxHeartbeats 4000000 in
theorem max_any {w : World} {g off n c : Nat} {vs : List (Value × Value × Value)} {L : Nat} {f : Nat → Rat} (hn : vs.length = n) (h1 : 1 ≤ n) (h2 : n ≤ 1000) (hc : n ≤ c) (hr : RdR w (some ⟨g, off, none⟩) vs) (ha : AllR w vs L f) (hL : L ≤ 65536) (hL1 : 1 ≤ L) (hT : TabOk w) :
    Calls Tryd.prog 38 #[.slice (some ⟨g, off, none⟩) n c] w fun e w' => (∃ k, k < n ∧ RetR (f k) L w e w' ∧ ∀ i, i < n → f i ≤ f k) := by
  have hn0 : ((n : Int) == 0) = false := by simp; omega
  have HN := Lib.hid hn
  clear hn
  go_enter Tryd.func38, Tryd.ntmps38
  go_wp2_with fail
  refine (maxFunc_any HN.out h1 h2 hc (hr.below (bel_alloc (Below.refl _ _) _)) (ha.below (bel_alloc (Below.refl _ _) _)) hL).mono ?_
  rintro e w1 ⟨⟨k, v, hv, rfl, hle⟩, hb1⟩
  have H1 := Lib.hid (bel_trans (bel_alloc (Below.refl _ _) _) hb1)
  have K1 := Blk.made hb1
  have hk : k < n := by
    rcases Nat.lt_or_ge k vs.length with h | h
    · rw [← HN.out]; exact h
    · rw [List.getElem?_eq_none h] at hv; cases hv
  have rk := (ha k v hv).below H1.out
  have T1 := hT.below H1.out
  have HL := Lib.hid hle
  clear hb1 hr ha hT hv hle
  go_wp2_with fail
  refine (reduced_any rk (by omega) hL1 T1).mono ?_
  rintro e w2 ⟨x5, y5, z5, hr, rfl, hb5⟩
  obtain ⟨s1, A1, n1, k1, B1, m1, l1, rfl, rfl, rfl⟩ := hr.form
  have H5 := Lib.hid (bel_trans H1.out hb5)
  have K5 := K1.below hb5 K1.lt
  clear hb5 K1 H1 T1 rk
  obtain ⟨c0, c1, c2, f0, f1, f2⟩ := K5.three
  go_wp2_with fail
  have K6 := K5.put3 (.bool s1) (.slice A1 n1 k1) (.slice B1 m1 l1)
  have R6 := hr.put3 K5 (.bool s1) (.slice A1 n1 k1) (.slice B1 m1 l1)
  have B6 := Lib.hid (bel_put3 H5.out (Nat.le_refl _) (.bool s1) (.slice A1 n1 k1) (.slice B1 m1 l1))
  unfold wput at K6 R6 B6
  clear c0 c1 c2 f0 f1 f2 K5 hr H5
  obtain ⟨c0, c1, c2, -, -, -⟩ := K6.three
  try simp only [Exit.inBlock, Exit.then]
  exact bodyPost_ret (v := .agg #[.bool s1, .slice A1 n1 k1, .slice B1 m1 l1]) (by simp [results, Tryd.results38, go_sem, c0, c1, c2]) rfl ⟨k, hk, ⟨_, _, _, R6, rfl, B6.out⟩, HL.out⟩
set_option maxHeartbeats 4000000 in
theorem max_none (A : Option Addr) (c : Nat) (w : World) : Calls Tryd.prog 38 #[.slice A 0 c] w (RetR 0 2 w) := by
  go_enter Tryd.func38, Tryd.ntmps38
  go_wp2_with fail
  refine (int_any 0 (by decide) _).mono ?_
  rw [intR_zero]
  rintro e w2 ⟨x5, y5, z5, hr, rfl, hb5⟩
  obtain ⟨s1, A1, n1, k1, B1, m1, l1, rfl, rfl, rfl⟩ := hr.form
  have H5 := Lib.hid (bel_trans (bel_alloc (Below.refl _ _) _) hb5)
  have K5 := Blk.made hb5
  clear hb5
  obtain ⟨c0, c1, c2, f0, f1, f2⟩ := K5.three
  go_wp2_with fail
  have K6 := K5.put3 (.bool s1) (.slice A1 n1 k1) (.slice B1 m1 l1)
  have R6 := hr.put3 K5 (.bool s1) (.slice A1 n1 k1) (.slice B1 m1 l1)
  have B6 := Lib.hid (bel_put3 H5.out (Nat.le_refl _) (.bool s1) (.slice A1 n1 k1) (.slice B1 m1 l1))
  unfold wput at K6 R6 B6
  clear c0 c1 c2 f0 f1 f2 K5 hr H5
  obtain ⟨c0, c1, c2, -, -, -⟩ := K6.three
  try simp only [Exit.inBlock, Exit.then]
  exact bodyPost_ret (v := .agg #[.bool s1, .slice A1 n1 k1, .slice B1 m1 l1]) (by simp [results, Tryd.results38, go_sem, c0, c1, c2]) rfl ⟨_, _, _, R6, rfl, B6.out⟩
end Go.Proofs.YtaollppieonmbaaDoor
