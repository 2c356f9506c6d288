/-
  Weighing by flyballref10 (WeighExpr, weighExprs): a number up to a bound, above it if it is more.
  Weighing by flyballref10 (weighStmts, Weigh).
  Weighing by flyballref10 (Weigh): a program's weight, up to a bound.
-/
import Derived.Test.YtgjgcehoakacoaaGreatDoorMTa
namespace Go.Proofs.YtgjgcehoakacoaaGreatDoor
open Go.RowKit
set_option maxRecDepth 100000

/-- x is t, or both are above m (x not far). -/
def Sat (t m x : Nat) : Prop := x ≤ 2 * m + 2 ∧ (t ≤ m → x = t) ∧ (m < t → m < x)
theorem Sat.more {t u m x : Nat} (h : Sat t m x) (hx : m < x) (hu : t ≤ u) : Sat u m x := by
  obtain ⟨h1, h2, h3⟩ := h
  refine ⟨h1, fun h => ?_, fun _ => hx⟩
  have := h2 (by omega)
  omega
theorem Sat.add {t u m x y : Nat} (h : Sat t m x) (hx : x ≤ m) (k : Sat u (m - x) y) : Sat (t + u) m (x + y) := by
  obtain ⟨h1, h2, h3⟩ := h
  obtain ⟨k1, k2, k3⟩ := k
  have e : t ≤ m := by
    rcases Nat.lt_or_ge m t with g | g
    · have := h3 g; omega
    · exact g
  have e1 := h2 e
  refine ⟨by omega, fun g => ?_, fun g => ?_⟩
  · have := k2 (by omega); omega
  · have := k3 (by omega); omega
theorem str_size' (l : List UInt8) : (⟨l.toArray⟩ : ByteArray).size = l.length := by rw [Lib.size_eq]
def WgX (B : Nat) (e : Ex) : Prop := ∀ (m : Nat) (w : World), e.In B w → B ≤ w.heap.size → m ≤ 100000 → Calls Tryz.prog 21 #[e.h.v, .int .i64 (m : Int)] w fun r w' => (∃ x : Nat, r = .returned (.int .i64 (x : Int)) ∧ Sat e.wt m x) ∧ Below w.heap.size w w'
set_option maxHeartbeats 3200000 in
theorem gWgX_of (B : Nat) (h : EH) (k : Nat → Ex) (ih : ∀ i, i < h.s.n → WgX B (k i)) (m : Nat) (w : World) (hok : h.ok) (hX0 : XsIn B w h.s k) (hB : B ≤ w.heap.size) (hm : m ≤ 100000) :
    Calls Tryz.prog 21 #[h.v, .int .i64 (m : Int)] w fun r w' => (∃ x : Nat, r = .returned (.int .i64 (x : Int)) ∧ Sat (1 + h.nm.length + sm (fun i => (k i).wt) h.s.n) m x) ∧ Below w.heap.size w w' := by
  obtain ⟨op, ps, bo, it, fl, nm, ⟨ao, n, c⟩⟩ := h
  dsimp only at ih hX0 ⊢
  have hX : XsIn B w ⟨ao, n, c⟩ k := hX0
  have HI := Lib.hid hX
  have IH := Lib.hid ih
  have HB := Lib.hid hB
  have hc := hok.s
  have hnm := hok.nm
  have hmx : n ≤ maxLen := Nat.le_trans hc.1 hc.2.1
  dsimp only at hnm
  unfold maxLen at hmx hnm
  have HM := Lib.hid hmx
  have HMM := Lib.hid hm
  have hsz := str_size' nm
  obtain ⟨q, hq⟩ : ∃ q, min nm.length (m + 1) = q := ⟨_, rfl⟩
  have hq' : min ((nm.length : Nat) : Int) ((m : Int) + 1) = (q : Int) := by omega
  have S0 : Sat (1 + nm.length) m (1 + q) := ⟨by omega, fun _ => by omega, fun _ => by omega⟩
  have ov1 : IntKind.i64.wrap ((m : Int) + 1) = (m : Int) + 1 := by rw [IntKind.wrap_i64]; omega
  have ov2 : IntKind.i64.wrap (1 + (q : Int)) = ((1 + q : Nat) : Int) := by rw [IntKind.wrap_i64]; omega
  have c5 : (bx w (xO ⟨op, ps, bo, it, fl, nm, ⟨ao, n, c⟩⟩)).cell? ⟨w.heap.size, 5, none⟩ = some (.string ⟨nm.toArray⟩) := cell_obj (bx_new w (xO ⟨op, ps, bo, it, fl, nm, ⟨ao, n, c⟩⟩)) 5
  have S0 := Lib.hid S0
  clear ih hok hX0 hX hB hc hnm hmx hm hq
  show Calls Tryz.prog 21 #[.agg #[.int .u8 op, .int .i64 ps, .bool bo, .int .i32 it, .int .u64 fl, .string ⟨nm.toArray⟩, .slice ao n c], .int .i64 (m : Int)] w _
  go_enter Tryz.func21, Tryz.ntmps21
  go_upto_region 1 with fail
  rw [bx_x w ⟨op, ps, bo, it, fl, nm, ⟨ao, n, c⟩⟩]
  go_wp2_with fail
  go_loopg [5, 6] n (fun gk t i wr => ∃ j x : Nat, i = .int .i64 (j : Int) ∧ t = .int .i64 (x : Int) ∧ Hid (gk = n - j ∧ j ≤ n) ∧ Hid (Sat (1 + nm.length + sm (fun i => (k i).wt) j) m x) ∧ Hid (Below (bx w (xO ⟨op, ps, bo, it, fl, nm, ⟨ao, n, c⟩⟩)).heap.size (bx w (xO ⟨op, ps, bo, it, fl, nm, ⟨ao, n, c⟩⟩)) wr))
  case atStart => exact ⟨0, 1 + q, rfl, by simp, ⟨rfl, Nat.zero_le _⟩, S0.out, Below.refl _ _⟩
  case round =>
    obtain ⟨j, x, rfl, rfl, HJ, HS, HBw⟩ := hrel
    have hz : (bx w (xO ⟨op, ps, bo, it, fl, nm, ⟨ao, n, c⟩⟩)).heap.size = w.heap.size + 1 := bx_size _ _
    have hBx : wr.heap[w.heap.size]? = some (xO ⟨op, ps, bo, it, fl, nm, ⟨ao, n, c⟩⟩) := (HBw.out.block _ (by omega)).trans (bx_new _ _)
    have c6 : wr.cell? ⟨w.heap.size, 6, none⟩ = some (.slice ao n c) := (x_cells hBx).2.2.2.2.2.2
    have BEL : Hid (Below w.heap.size w wr) := (bx_bel (Below.refl _ _) (Nat.le_refl _) _).trans (HBw.out.mono (by omega))
    have HZ := Lib.hid hz
    clear hBx hz c5 hsz hq' ov1 ov2
    have hxb : x ≤ 200002 := by have := HS.out.1; have := HMM.out; omega
    by_cases hlt : j < n
    · have z0 : (j : Int) < (n : Int) := by omega
      by_cases hle : x ≤ m
      · have z1 : (x : Int) ≤ (m : Int) := by omega
        have ovi : IntKind.i64.wrap ((j : Int) + 1) = ((j + 1 : Nat) : Int) := by have := HM.out; rw [IntKind.wrap_i64]; omega
        obtain ⟨a, b, o, rfl, hA, hb, X, I⟩ := XsIn.at (HI.out.below BEL.out HB.out) (i := j) hlt
        have d0 := X.c0; have d1 := X.c1; have d2 := X.c2; have d3 := X.c3; have d4 := X.c4; have d5 := X.c5; have d6 := X.c6
        have C := Lib.hid (IH.out j hlt (m - x) wr I (Nat.le_trans HB.out BEL.out.size) (by have := HMM.out; omega))
        have ovs : IntKind.i64.wrap ((m : Int) - (x : Int)) = ((m - x : Nat) : Int) := by rw [IntKind.wrap_i64]; have := HMM.out; omega
        have HLE := Lib.hid hle
        have HLT := Lib.hid hlt
        have hHM := HMM.out
        clear X I hb hle hlt
        go_wp2_with fail
        refine C.out.mono ?_
        rintro e w' ⟨⟨y, rfl, hy⟩, hb⟩
        have ov : IntKind.i64.wrap ((x : Int) + (y : Int)) = ((x + y : Nat) : Int) := by rw [IntKind.wrap_i64]; have := hy.1; omega
        have HY := Lib.hid hy
        have HB2 := Lib.hid (HBw.out.trans (hb.mono HBw.out.size))
        clear hy hb
        go_wp2_with fail
        go_roundg (n - (j + 1))
        case measure => have := HJ.out; have := HLT.out; omega
        case rel => exact ⟨j + 1, x + y, by go_num, rfl, ⟨rfl, HLT.out⟩, by have := HS.out.add HLE.out HY.out; rwa [Nat.add_assoc] at this, HB2.out⟩
      · have z1 : ¬ (x : Int) ≤ (m : Int) := by omega
        have R := Lib.hid (HS.out.more (u := 1 + nm.length + sm (fun i => (k i).wt) n) (by omega) (by have := sm_one (f := fun i => (k i).wt) hlt; omega))
        clear hlt hle
        go_wp2_with fail
        go_ret
        exact ⟨⟨x, rfl, R.out⟩, BEL.out⟩
    · obtain rfl : j = n := by have := HJ.out; omega
      have z0 : ¬ (j : Int) < (j : Int) := by omega
      clear hlt
      go_wp2_with fail
      go_ret
      exact ⟨⟨x, rfl, HS.out⟩, BEL.out⟩
theorem gWgX_any (B : Nat) (e : Ex) : WgX B e := by
  induction e using Ex.ind with
  | H e ih =>
    intro m w hI hB hm
    rw [Ex.wt_eq]
    exact gWgX_of B e.h e.k ih m w hI.ok hI.xs hB hm
set_option maxHeartbeats 3200000 in
theorem gWgXs_any (B : Nat) (s : Sl) (k : Nat → Ex) (m : Nat) (w : World) (hX : XsIn B w s k) (hB : B ≤ w.heap.size) (hm : m ≤ 100000) :
    Calls Tryz.prog 46 #[.slice s.ao s.n s.c, .int .i64 (m : Int)] w fun r w' => (∃ x : Nat, r = .returned (.int .i64 (x : Int)) ∧ Sat (sm (fun i => (k i).wt) s.n) m x) ∧ Below w.heap.size w w' := by
  have HI := Lib.hid hX
  have HB := Lib.hid hB
  have hc := hX.1
  have hmx : s.n ≤ maxLen := Nat.le_trans hc.1 hc.2.1
  unfold maxLen at hmx
  have HM := Lib.hid hmx
  have HMM := Lib.hid hm
  obtain ⟨ao, n, c⟩ := s
  dsimp only at *
  clear hX hB hc hmx hm
  go_enter Tryz.func46, Tryz.ntmps46
  go_wp2_with fail
  go_loopg [5, 6] n (fun gk t i wr => ∃ j x : Nat, i = .int .i64 (j : Int) ∧ t = .int .i64 (x : Int) ∧ Hid (gk = n - j ∧ j ≤ n) ∧ Hid (Sat (sm (fun i => (k i).wt) j) m x) ∧ Hid (Below w.heap.size w wr))
  case atStart => exact ⟨0, 0, rfl, rfl, ⟨rfl, Nat.zero_le _⟩, ⟨by omega, fun _ => rfl, fun h => by simp [sm] at h⟩, Below.refl _ _⟩
  case round =>
    obtain ⟨j, x, rfl, rfl, HJ, HS, BEL⟩ := hrel
    have hxb : x ≤ 200002 := by have := HS.out.1; have := HMM.out; omega
    by_cases hlt : j < n
    · have z0 : (j : Int) < (n : Int) := by omega
      by_cases hle : x ≤ m
      · have z1 : (x : Int) ≤ (m : Int) := by omega
        have ovi : IntKind.i64.wrap ((j : Int) + 1) = ((j + 1 : Nat) : Int) := by have := HM.out; rw [IntKind.wrap_i64]; omega
        obtain ⟨a, b, o, rfl, hA, hb, X, I⟩ := XsIn.at (HI.out.below BEL.out HB.out) (i := j) hlt
        have d0 := X.c0; have d1 := X.c1; have d2 := X.c2; have d3 := X.c3; have d4 := X.c4; have d5 := X.c5; have d6 := X.c6
        have C := Lib.hid (gWgX_any B (k j) (m - x) wr I (Nat.le_trans HB.out BEL.out.size) (by have := HMM.out; omega))
        have ovs : IntKind.i64.wrap ((m : Int) - (x : Int)) = ((m - x : Nat) : Int) := by rw [IntKind.wrap_i64]; have := HMM.out; omega
        have HLE := Lib.hid hle
        have HLT := Lib.hid hlt
        have hHM := HMM.out
        clear X I hb hle hlt
        go_wp2_with fail
        refine C.out.mono ?_
        rintro e w' ⟨⟨y, rfl, hy⟩, hb⟩
        have ov : IntKind.i64.wrap ((x : Int) + (y : Int)) = ((x + y : Nat) : Int) := by rw [IntKind.wrap_i64]; have := hy.1; omega
        have HY := Lib.hid hy
        have HB2 := Lib.hid (BEL.out.trans (hb.mono BEL.out.size))
        clear hy hb
        go_wp2_with fail
        go_roundg (n - (j + 1))
        case measure => have := HJ.out; have := HLT.out; omega
        case rel => exact ⟨j + 1, x + y, by go_num, rfl, ⟨rfl, HLT.out⟩, by have := HS.out.add HLE.out HY.out; exact this, HB2.out⟩
      · have z1 : ¬ (x : Int) ≤ (m : Int) := by omega
        have R := Lib.hid (HS.out.more (u := sm (fun i => (k i).wt) n) (by omega) (sm_le (by omega)))
        clear hlt hle
        go_wp2_with fail
        go_ret
        exact ⟨⟨x, rfl, R.out⟩, BEL.out⟩
    · obtain rfl : j = n := by have := HJ.out; omega
      have z0 : ¬ (j : Int) < (j : Int) := by omega
      clear hlt
      go_wp2_with fail
      go_ret
      exact ⟨⟨x, rfl, HS.out⟩, BEL.out⟩
end Go.Proofs.YtgjgcehoakacoaaGreatDoor
namespace Go.Proofs.YtgjgcehoakacoaaGreatDoor
open Go.RowKit
set_option maxRecDepth 100000

/-- A head's own weight added. -/
theorem Sat.head {t m x l q : Nat} (h : Sat t m x) (hx : x ≤ m) (hq : min l (m + 1) = q) : Sat (t + (1 + l)) m (x + 1 + q) := by
  obtain ⟨h1, h2, h3⟩ := h
  have e : t = x := by
    rcases Nat.lt_or_ge m t with g | g
    · have := h3 g; omega
    · exact (h2 g).symm
  exact ⟨by omega, fun _ => by omega, fun _ => by omega⟩
def WgSs (B : Nat) (s : Sl) (k : Nat → St) : Prop := ∀ (m : Nat) (w : World), SsIn B w s k → B ≤ w.heap.size → m ≤ 100000 →
  Calls Tryz.prog 22 #[.slice s.ao s.n s.c, .int .i64 (m : Int)] w fun r w' => (∃ x : Nat, r = .returned (.int .i64 (x : Int)) ∧ Sat (sm (fun i => (k i).wt) s.n) m x) ∧ Below w.heap.size w w'
set_option maxHeartbeats 6400000 in
theorem gWgS_of (B : Nat) (s : Sl) (k : Nat → St) (ih : ∀ i, i < s.n → WgSs B (k i).h.ts (k i).t ∧ WgSs B (k i).h.es (k i).l) : WgSs B s k := by
  intro m w hX hB hm
  have HI := Lib.hid hX
  have IH := Lib.hid ih
  have HB := Lib.hid hB
  have hc := hX.1
  have hmx : s.n ≤ maxLen := Nat.le_trans hc.1 hc.2.1
  unfold maxLen at hmx
  have HM := Lib.hid hmx
  have HMM := Lib.hid hm
  obtain ⟨ao, n, c⟩ := s
  dsimp only at *
  clear hX hB hc hmx hm ih
  go_enter Tryz.func22, Tryz.ntmps22
  go_wp2_with fail
  go_loopg [5, 6] n (fun gk t i wr => ∃ j x : Nat, i = .int .i64 (j : Int) ∧ t = .int .i64 (x : Int) ∧ Hid (gk = n - j ∧ j ≤ n) ∧ Hid (Sat (sm (fun i => (k i).wt) j) m x) ∧ Hid (Below w.heap.size w wr))
  case atStart => exact ⟨0, 0, rfl, rfl, ⟨rfl, Nat.zero_le _⟩, ⟨by omega, fun _ => rfl, fun h => by simp [sm] at h⟩, Below.refl _ _⟩
  case round =>
    obtain ⟨j, x, rfl, rfl, HJ, HS, BEL⟩ := hrel
    have hxb : x ≤ 200002 := by have := HS.out.1; have := HMM.out; omega
    by_cases hlt : j < n
    · have z0 : (j : Int) < (n : Int) := by omega
      by_cases hle : x ≤ m
      · have z1 : (x : Int) ≤ (m : Int) := by omega
        have ovi : IntKind.i64.wrap ((j : Int) + 1) = ((j + 1 : Nat) : Int) := by have := HM.out; rw [IntKind.wrap_i64]; omega
        obtain ⟨a, b, o, rfl, hA, hb, X, I⟩ := SsIn.at (HI.out.below BEL.out HB.out) (i := j) hlt
        have d2 := X.c2; have d3 := X.c3
        have XX := Lib.hid (And.intro hb X)
        have II := Lib.hid I
        have hsz := str_size' (k j).h.nm
        obtain ⟨q, hq⟩ : ∃ q, min (k j).h.nm.length (m + 1) = q := ⟨_, rfl⟩
        have hq' : min (((k j).h.nm.length : Nat) : Int) ((m : Int) + 1) = (q : Int) := by omega
        have S1 := Lib.hid (HS.out.head hle hq)
        have HLT := Lib.hid hlt
        have hHM := HMM.out
        have HW := Lib.hid (show sm (fun i => (k i).wt) (j + 1) = sm (fun i => (k i).wt) j + (k j).wt from rfl)
        have HE := Lib.hid (St.wt_eq (k j))
        have ov0 : IntKind.i64.wrap ((m : Int) + 1) = (m : Int) + 1 := by rw [IntKind.wrap_i64]; omega
        have ov1 : IntKind.i64.wrap ((x : Int) + 1) = (x : Int) + 1 := by rw [IntKind.wrap_i64]; omega
        have ov2 : IntKind.i64.wrap ((x : Int) + 1 + (q : Int)) = ((x + 1 + q : Nat) : Int) := by rw [IntKind.wrap_i64]; omega
        obtain ⟨x1, hx1⟩ : ∃ x1, x + 1 + q = x1 := ⟨_, rfl⟩
        have hx1' : ((x + 1 + q : Nat) : Int) = (x1 : Int) := by omega
        rw [hx1'] at ov2
        rw [hx1] at S1
        clear X I hb hle hlt hq hx1 hx1'
        go_upto_region 6 with fail
        have HX1 : Hid (x1 ≤ 200002) := by have := S1.out.1; have := HMM.out; show _ ≤ _; omega
        by_cases h1 : x1 ≤ m
        · have y1 : (x1 : Int) ≤ (m : Int) := by omega
          have C1 := Lib.hid (gWgXs_any B (k j).h.xs (k j).x (m - x1) wr (II.out.xs) (Nat.le_trans HB.out BEL.out.size) (by have := HMM.out; omega))
          have os1 : IntKind.i64.wrap ((m : Int) - (x1 : Int)) = ((m - x1 : Nat) : Int) := by rw [IntKind.wrap_i64]; have := HMM.out; omega
          have HL1 := Lib.hid h1
          clear h1
          go_wp2_with fail
          refine C1.out.mono ?_
          rintro e w1 ⟨⟨y, rfl, hy⟩, hb⟩
          have S2 := Lib.hid (S1.out.add HL1.out hy)
          have ov : IntKind.i64.wrap ((x1 : Int) + (y : Int)) = ((x1 + y : Nat) : Int) := by rw [IntKind.wrap_i64]; have := hy.1; have := HX1.out; have := HMM.out; omega
          have BEL1 := Lib.hid (BEL.out.trans (hb.mono BEL.out.size))
          have BEL1' : Hid (Below wr.heap.size wr w1) := hb
          obtain ⟨x2, hx⟩ : ∃ z, x1 + y = z := ⟨_, rfl⟩
          have hx' : ((x1 + y : Nat) : Int) = (x2 : Int) := by omega
          rw [hx'] at ov
          rw [hx] at S2
          go_upto_region 8 with fail
          clear hy hb hx hx' os1 y1 ov C1 d2 d3 hsz hq' ov0 ov1 ov2
          have HX2 : Hid (x2 ≤ 200002) := by have := S2.out.1; have := HMM.out; show _ ≤ _; omega
          by_cases h2 : x2 ≤ m
          · have y2 : (x2 : Int) ≤ (m : Int) := by omega
            have XC := XX.out.2.below XX.out.1 BEL1'.out (Nat.le_trans HB.out BEL.out.size)
            have d4 := XC.c4
            have d5 := XC.c5
            have d6 := XC.c6
            have d7 := XC.c7
            have d8 := XC.c8
            have d9 := XC.c9
            have d10 := XC.c10
            clear XC
            have C2 := Lib.hid (gWgX_any B (k j).e (m - x2) w1 (II.out.ex.below (BEL1'.out) (Nat.le_trans HB.out BEL.out.size)) (Nat.le_trans HB.out BEL1.out.size) (by have := HMM.out; omega))
            have os2 : IntKind.i64.wrap ((m : Int) - (x2 : Int)) = ((m - x2 : Nat) : Int) := by rw [IntKind.wrap_i64]; have := HMM.out; omega
            have HL2 := Lib.hid h2
            clear h2
            go_wp2_with fail
            refine C2.out.mono ?_
            rintro e w2 ⟨⟨y, rfl, hy⟩, hb⟩
            have S3 := Lib.hid (S2.out.add HL2.out hy)
            have ov : IntKind.i64.wrap ((x2 : Int) + (y : Int)) = ((x2 + y : Nat) : Int) := by rw [IntKind.wrap_i64]; have := hy.1; have := HX2.out; have := HMM.out; omega
            have BEL2 := Lib.hid (BEL1.out.trans (hb.mono BEL1.out.size))
            have BEL2' := Lib.hid (BEL1'.out.trans (hb.mono BEL1'.out.size))
            obtain ⟨x3, hx⟩ : ∃ z, x2 + y = z := ⟨_, rfl⟩
            have hx' : ((x2 + y : Nat) : Int) = (x3 : Int) := by omega
            rw [hx'] at ov
            rw [hx] at S3
            go_upto_region 10 with fail
            clear hy hb hx hx' os2 y2 ov C2 d4 d5 d6 d7 d8 d9 d10
            have HX3 : Hid (x3 ≤ 200002) := by have := S3.out.1; have := HMM.out; show _ ≤ _; omega
            by_cases h3 : x3 ≤ m
            · have y3 : (x3 : Int) ≤ (m : Int) := by omega
              have XC := XX.out.2.below XX.out.1 BEL2'.out (Nat.le_trans HB.out BEL.out.size)
              have d13 := XC.c13
              clear XC
              have C3 := Lib.hid ((IH.out j HLT.out).1 (m - x3) w2 (II.out.ts.below (BEL2'.out) (Nat.le_trans HB.out BEL.out.size)) (Nat.le_trans HB.out BEL2.out.size) (by have := HMM.out; omega))
              have os3 : IntKind.i64.wrap ((m : Int) - (x3 : Int)) = ((m - x3 : Nat) : Int) := by rw [IntKind.wrap_i64]; have := HMM.out; omega
              have HL3 := Lib.hid h3
              clear h3
              go_wp2_with fail
              refine C3.out.mono ?_
              rintro e w3 ⟨⟨y, rfl, hy⟩, hb⟩
              have S4 := Lib.hid (S3.out.add HL3.out hy)
              have ov : IntKind.i64.wrap ((x3 : Int) + (y : Int)) = ((x3 + y : Nat) : Int) := by rw [IntKind.wrap_i64]; have := hy.1; have := HX3.out; have := HMM.out; omega
              have BEL3 := Lib.hid (BEL2.out.trans (hb.mono BEL2.out.size))
              have BEL3' := Lib.hid (BEL2'.out.trans (hb.mono BEL2'.out.size))
              obtain ⟨x4, hx⟩ : ∃ z, x3 + y = z := ⟨_, rfl⟩
              have hx' : ((x3 + y : Nat) : Int) = (x4 : Int) := by omega
              rw [hx'] at ov
              rw [hx] at S4
              go_upto_region 12 with fail
              clear hy hb hx hx' os3 y3 ov C3 d13
              have HX4 : Hid (x4 ≤ 200002) := by have := S4.out.1; have := HMM.out; show _ ≤ _; omega
              by_cases h4 : x4 ≤ m
              · have y4 : (x4 : Int) ≤ (m : Int) := by omega
                have XC := XX.out.2.below XX.out.1 BEL3'.out (Nat.le_trans HB.out BEL.out.size)
                have d14 := XC.c14
                clear XC
                have C4 := Lib.hid ((IH.out j HLT.out).2 (m - x4) w3 (II.out.es.below (BEL3'.out) (Nat.le_trans HB.out BEL.out.size)) (Nat.le_trans HB.out BEL3.out.size) (by have := HMM.out; omega))
                have os4 : IntKind.i64.wrap ((m : Int) - (x4 : Int)) = ((m - x4 : Nat) : Int) := by rw [IntKind.wrap_i64]; have := HMM.out; omega
                have HL4 := Lib.hid h4
                clear h4
                go_wp2_with fail
                refine C4.out.mono ?_
                rintro e w4 ⟨⟨y, rfl, hy⟩, hb⟩
                have S5 := Lib.hid (S4.out.add HL4.out hy)
                have ov : IntKind.i64.wrap ((x4 : Int) + (y : Int)) = ((x4 + y : Nat) : Int) := by rw [IntKind.wrap_i64]; have := hy.1; have := HX4.out; have := HMM.out; omega
                have BEL4 := Lib.hid (BEL3.out.trans (hb.mono BEL3.out.size))
                have BEL4' := Lib.hid (BEL3'.out.trans (hb.mono BEL3'.out.size))
                obtain ⟨x5, hx⟩ : ∃ z, x4 + y = z := ⟨_, rfl⟩
                have hx' : ((x4 + y : Nat) : Int) = (x5 : Int) := by omega
                rw [hx'] at ov
                rw [hx] at S5
                clear hy hb hx hx' C4
                go_wp2_with fail
                go_roundg (n - (j + 1))
                case measure => have := HJ.out; have := HLT.out; omega
                case rel => exact ⟨j + 1, x5, by go_num, rfl, ⟨rfl, HLT.out⟩, by have := S5.out; rw [HW.out, HE.out]; rwa [show sm (fun i => (k i).wt) j + (1 + (k j).h.nm.length) + sm (fun i => ((k j).x i).wt) (k j).h.xs.n + (k j).e.wt + sm (fun i => ((k j).t i).wt) (k j).h.ts.n + sm (fun i => ((k j).l i).wt) (k j).h.es.n = sm (fun i => (k i).wt) j + (1 + (k j).h.nm.length + sm (fun i => ((k j).x i).wt) (k j).h.xs.n + (k j).e.wt + sm (fun i => ((k j).t i).wt) (k j).h.ts.n + sm (fun i => ((k j).l i).wt) (k j).h.es.n) by omega] at this, BEL4.out⟩
              · have y4 : ¬ (x4 : Int) ≤ (m : Int) := by omega
                have HL4 := Lib.hid h4
                clear h4
                go_wp2_with fail
                go_roundg (n - (j + 1))
                case measure => have := HJ.out; have := HLT.out; omega
                case rel => exact ⟨j + 1, x4, by go_num, rfl, ⟨rfl, HLT.out⟩, S4.out.more (by have := HL4.out; omega) (by rw [HW.out, HE.out]; omega), BEL3.out⟩
            · have y3 : ¬ (x3 : Int) ≤ (m : Int) := by omega
              have HL3 := Lib.hid h3
              clear h3
              go_wp2_with fail
              go_roundg (n - (j + 1))
              case measure => have := HJ.out; have := HLT.out; omega
              case rel => exact ⟨j + 1, x3, by go_num, rfl, ⟨rfl, HLT.out⟩, S3.out.more (by have := HL3.out; omega) (by rw [HW.out, HE.out]; omega), BEL2.out⟩
          · have y2 : ¬ (x2 : Int) ≤ (m : Int) := by omega
            have HL2 := Lib.hid h2
            clear h2
            go_wp2_with fail
            go_roundg (n - (j + 1))
            case measure => have := HJ.out; have := HLT.out; omega
            case rel => exact ⟨j + 1, x2, by go_num, rfl, ⟨rfl, HLT.out⟩, S2.out.more (by have := HL2.out; omega) (by rw [HW.out, HE.out]; omega), BEL1.out⟩
        · have y1 : ¬ (x1 : Int) ≤ (m : Int) := by omega
          have HL1 := Lib.hid h1
          clear h1 d2 d3 hsz hq' ov0 ov1 ov2
          go_wp2_with fail
          go_roundg (n - (j + 1))
          case measure => have := HJ.out; have := HLT.out; omega
          case rel => exact ⟨j + 1, x1, by go_num, rfl, ⟨rfl, HLT.out⟩, S1.out.more (by have := HL1.out; omega) (by rw [HW.out, HE.out]; omega), BEL.out⟩
      · have z1 : ¬ (x : Int) ≤ (m : Int) := by omega
        have R := Lib.hid (HS.out.more (u := sm (fun i => (k i).wt) n) (by omega) (sm_le (by omega)))
        clear hlt hle
        go_wp2_with fail
        go_ret
        exact ⟨⟨x, rfl, R.out⟩, BEL.out⟩
    · obtain rfl : j = n := by have := HJ.out; omega
      have z0 : ¬ (j : Int) < (j : Int) := by omega
      clear hlt
      go_wp2_with fail
      go_ret
      exact ⟨⟨x, rfl, HS.out⟩, BEL.out⟩
theorem gWgS_e (B : Nat) (s : St) : WgSs B s.h.ts s.t ∧ WgSs B s.h.es s.l := by
  induction s using St.ind with
  | H s it il => exact ⟨gWgS_of B s.h.ts s.t it, gWgS_of B s.h.es s.l il⟩
theorem gWgS_any (B : Nat) (s : Sl) (k : Nat → St) : WgSs B s k := gWgS_of B s k fun i _ => gWgS_e B (k i)
end Go.Proofs.YtgjgcehoakacoaaGreatDoor
namespace Go.Proofs.YtgjgcehoakacoaaGreatDoor
open Go.RowKit
set_option maxRecDepth 100000

set_option maxHeartbeats 6400000 in
theorem gWeigh_any (p : Pr) (B m : Nat) (w : World) (hp : p.In B w) (hB : B ≤ w.heap.size) (hm : m ≤ 100000) :
    Calls Tryz.prog 7 #[p.v, .int .i64 (m : Int)] w fun r w' => (∃ x : Nat, r = .returned (.int .i64 (x : Int)) ∧ Sat p.wt m x) ∧ Below w.heap.size w w' := by
  obtain ⟨tk, ⟨ao, n, c⟩, k, is, ki, ss, ks⟩ := p
  have HI : Hid (DsIn B w ⟨ao, n, c⟩ k) := hp.2.1
  have I1 : Hid (SsIn B w is ki) := hp.2.2.1
  have I2 : Hid (SsIn B w ss ks) := hp.2.2.2
  have HB := Lib.hid hB
  have hc := hp.2.1.1
  have hmx : n ≤ maxLen := Nat.le_trans hc.1 hc.2.1
  unfold maxLen at hmx
  have HM := Lib.hid hmx
  have HMM := Lib.hid hm
  have hz : (bx w (pO ⟨tk, ⟨ao, n, c⟩, k, is, ki, ss, ks⟩)).heap.size = w.heap.size + 1 := bx_size _ _
  have HZ := Lib.hid hz
  clear hp hB hc hmx hm hz
  show Calls Tryz.prog 7 #[.agg #[.int .i64 tk, .slice ao n c, .slice is.ao is.n is.c, .slice ss.ao ss.n ss.c], .int .i64 (m : Int)] w _
  go_enter Tryz.func7, Tryz.ntmps7
  go_upto_region 1 with fail
  rw [bx_p w ⟨tk, ⟨ao, n, c⟩, k, is, ki, ss, ks⟩]
  go_wp2_with fail
  go_loopg [5, 6] n (fun gk t i wr => ∃ j x : Nat, i = .int .i64 (j : Int) ∧ t = .int .i64 (x : Int) ∧ Hid (gk = n - j ∧ j ≤ n) ∧ Hid (Sat (sm (fun i => (k i).wt) j) m x) ∧ Hid (Below (bx w (pO ⟨tk, ⟨ao, n, c⟩, k, is, ki, ss, ks⟩)).heap.size (bx w (pO ⟨tk, ⟨ao, n, c⟩, k, is, ki, ss, ks⟩)) wr))
  case atStart => exact ⟨0, 0, rfl, rfl, ⟨rfl, Nat.zero_le _⟩, ⟨by omega, fun _ => rfl, fun h => by simp [sm] at h⟩, Below.refl _ _⟩
  case round =>
    obtain ⟨j, x, rfl, rfl, HJ, HS, HBw⟩ := hrel
    have hBx : wr.heap[w.heap.size]? = some (pO ⟨tk, ⟨ao, n, c⟩, k, is, ki, ss, ks⟩) := (HBw.out.block _ (by have := HZ.out; omega)).trans (bx_new _ _)
    obtain ⟨-, c1, c2, c3⟩ := p_cells hBx
    dsimp only at c1 c2 c3
    have BEL : Hid (Below w.heap.size w wr) := (bx_bel (Below.refl _ _) (Nat.le_refl _) _).trans (HBw.out.mono (by have := HZ.out; omega))
    have HP := Lib.hid hBx
    have hxb : x ≤ 200002 := by have := HS.out.1; have := HMM.out; omega
    clear hBx
    by_cases hlt : j < n
    · have z0 : (j : Int) < (n : Int) := by omega
      by_cases hle : x ≤ m
      · have z1 : (x : Int) ≤ (m : Int) := by omega
        have ovi : IntKind.i64.wrap ((j : Int) + 1) = ((j + 1 : Nat) : Int) := by have := HM.out; rw [IntKind.wrap_i64]; omega
        obtain ⟨a, b, o, rfl, hA, hb, X, I⟩ := DsIn.at (HI.out.below BEL.out HB.out) (i := j) hlt
        have d2 := X.c2
        have XX := Lib.hid (And.intro hb X)
        have II := Lib.hid I
        have hsz := str_size' (k j).nm
        obtain ⟨q, hq⟩ : ∃ q, min (k j).nm.length (m + 1) = q := ⟨_, rfl⟩
        have hq' : min (((k j).nm.length : Nat) : Int) ((m : Int) + 1) = (q : Int) := by omega
        have S1 := Lib.hid (HS.out.head hle hq)
        have HLT := Lib.hid hlt
        have hHM := HMM.out
        have HW := Lib.hid (show sm (fun i => (k i).wt) (j + 1) = sm (fun i => (k i).wt) j + (1 + (k j).nm.length + (k j).lo.wt + (k j).hi.wt) from rfl)
        have ov0 : IntKind.i64.wrap ((m : Int) + 1) = (m : Int) + 1 := by rw [IntKind.wrap_i64]; omega
        have ov1 : IntKind.i64.wrap ((x : Int) + 1) = (x : Int) + 1 := by rw [IntKind.wrap_i64]; omega
        have ov2 : IntKind.i64.wrap ((x : Int) + 1 + (q : Int)) = ((x + 1 + q : Nat) : Int) := by rw [IntKind.wrap_i64]; omega
        obtain ⟨x1, hx1⟩ : ∃ x1, x + 1 + q = x1 := ⟨_, rfl⟩
        have hx1' : ((x + 1 + q : Nat) : Int) = (x1 : Int) := by omega
        rw [hx1'] at ov2
        rw [hx1] at S1
        clear X I hb hle hlt hq hx1 hx1' c2 c3
        go_upto_region 6 with fail
        have HX1 : Hid (x1 ≤ 200002) := by have := S1.out.1; have := HMM.out; show _ ≤ _; omega
        by_cases h1 : x1 ≤ m
        · have y1 : (x1 : Int) ≤ (m : Int) := by omega
          have XC := XX.out.2
          have d6 := XC.c6
          have d7 := XC.c7
          have d8 := XC.c8
          have d9 := XC.c9
          have d10 := XC.c10
          have d11 := XC.c11
          have d12 := XC.c12
          clear XC
          have C1 := Lib.hid (gWgX_any B (k j).lo (m - x1) wr II.out.2.1 (Nat.le_trans HB.out BEL.out.size) (by have := HMM.out; omega))
          have os1 : IntKind.i64.wrap ((m : Int) - (x1 : Int)) = ((m - x1 : Nat) : Int) := by rw [IntKind.wrap_i64]; have := HMM.out; omega
          have HL1 := Lib.hid h1
          clear h1
          go_wp2_with fail
          refine C1.out.mono ?_
          rintro e w1 ⟨⟨y, rfl, hy⟩, hb⟩
          have S2 := Lib.hid (S1.out.add HL1.out hy)
          have ov : IntKind.i64.wrap ((x1 : Int) + (y : Int)) = ((x1 + y : Nat) : Int) := by rw [IntKind.wrap_i64]; have := hy.1; have := HX1.out; have := HMM.out; omega
          have BEL1 := Lib.hid (BEL.out.trans (hb.mono BEL.out.size))
          have BEL1' : Hid (Below wr.heap.size wr w1) := hb
          obtain ⟨x2, hx⟩ : ∃ z, x1 + y = z := ⟨_, rfl⟩
          have hx' : ((x1 + y : Nat) : Int) = (x2 : Int) := by omega
          rw [hx'] at ov
          rw [hx] at S2
          go_upto_region 8 with fail
          clear hy hb hx hx' os1 y1 ov C1 d2 hsz hq' ov0 ov1 ov2 c1 d6 d7 d8 d9 d10 d11 d12
          have HX2 : Hid (x2 ≤ 200002) := by have := S2.out.1; have := HMM.out; show _ ≤ _; omega
          by_cases h2 : x2 ≤ m
          · have y2 : (x2 : Int) ≤ (m : Int) := by omega
            have XC := XX.out.2.below XX.out.1 BEL1'.out (Nat.le_trans HB.out BEL.out.size)
            have c1 := (p_cells ((BEL1'.out.block _ (Array.getElem?_eq_some_iff.1 HP.out).1).trans HP.out)).2.1
            dsimp only at c1
            have d13 := XC.c13
            have d14 := XC.c14
            have d15 := XC.c15
            have d16 := XC.c16
            have d17 := XC.c17
            have d18 := XC.c18
            have d19 := XC.c19
            clear XC
            have C2 := Lib.hid (gWgX_any B (k j).hi (m - x2) w1 (II.out.2.2.below BEL1'.out (Nat.le_trans HB.out BEL.out.size)) (Nat.le_trans HB.out BEL1.out.size) (by have := HMM.out; omega))
            have os2 : IntKind.i64.wrap ((m : Int) - (x2 : Int)) = ((m - x2 : Nat) : Int) := by rw [IntKind.wrap_i64]; have := HMM.out; omega
            have HL2 := Lib.hid h2
            clear h2
            go_wp2_with fail
            refine C2.out.mono ?_
            rintro e w2 ⟨⟨y, rfl, hy⟩, hb⟩
            have S3 := Lib.hid (S2.out.add HL2.out hy)
            have ov : IntKind.i64.wrap ((x2 : Int) + (y : Int)) = ((x2 + y : Nat) : Int) := by rw [IntKind.wrap_i64]; have := hy.1; have := HX2.out; have := HMM.out; omega
            have BEL2 := Lib.hid (BEL1.out.trans (hb.mono BEL1.out.size))
            have BEL2' := Lib.hid (BEL1'.out.trans (hb.mono BEL1'.out.size))
            obtain ⟨x3, hx⟩ : ∃ z, x2 + y = z := ⟨_, rfl⟩
            have hx' : ((x2 + y : Nat) : Int) = (x3 : Int) := by omega
            rw [hx'] at ov
            rw [hx] at S3
            clear hy hb hx hx' C2
            go_wp2_with fail
            go_roundg (n - (j + 1))
            case measure => have := HJ.out; have := HLT.out; omega
            case rel => exact ⟨j + 1, x3, by go_num, rfl, ⟨rfl, HLT.out⟩, by have := S3.out; rw [HW.out]; rwa [show sm (fun i => (k i).wt) j + (1 + (k j).nm.length) + (k j).lo.wt + (k j).hi.wt = sm (fun i => (k i).wt) j + (1 + (k j).nm.length + (k j).lo.wt + (k j).hi.wt) by omega] at this, HBw.out.trans (BEL2'.out.mono HBw.out.size)⟩
          · have y2 : ¬ (x2 : Int) ≤ (m : Int) := by omega
            have HL2 := Lib.hid h2
            clear h2
            go_wp2_with fail
            go_roundg (n - (j + 1))
            case measure => have := HJ.out; have := HLT.out; omega
            case rel => exact ⟨j + 1, x2, by go_num, rfl, ⟨rfl, HLT.out⟩, S2.out.more (by have := HL2.out; omega) (by rw [HW.out]; omega), HBw.out.trans (BEL1'.out.mono HBw.out.size)⟩
        · have y1 : ¬ (x1 : Int) ≤ (m : Int) := by omega
          have HL1 := Lib.hid h1
          clear h1 d2 hsz hq' ov0 ov1 ov2
          go_wp2_with fail
          go_roundg (n - (j + 1))
          case measure => have := HJ.out; have := HLT.out; omega
          case rel => exact ⟨j + 1, x1, by go_num, rfl, ⟨rfl, HLT.out⟩, S1.out.more (by have := HL1.out; omega) (by rw [HW.out]; omega), HBw.out⟩
      · have z1 : ¬ (x : Int) ≤ (m : Int) := by omega
        have SN := Lib.hid (HS.out.more (u := sm (fun i => (k i).wt) n) (by omega) (sm_le (by omega)))
        clear hlt
        have R := Lib.hid (SN.out.more (u := (⟨tk, ⟨ao, n, c⟩, k, is, ki, ss, ks⟩ : Pr).wt) (by omega) (by unfold Pr.wt; dsimp only; omega))
        clear hle c2 c3
        go_wp2_with fail
        go_ret
        exact ⟨⟨x, rfl, R.out⟩, BEL.out⟩
    · obtain rfl : j = n := by have := HJ.out; omega
      have z0 : ¬ (j : Int) < (j : Int) := by omega
      have SN := HS
      clear hlt
      have HX : Hid (x ≤ 200002) := hxb
      clear hxb
      by_cases hle : x ≤ m
      · have z1 : (x : Int) ≤ (m : Int) := by omega
        have C1 := Lib.hid (gWgS_any B is ki (m - x) wr (I1.out.below BEL.out HB.out) (Nat.le_trans HB.out BEL.out.size) (by have := HMM.out; omega))
        have os1 : IntKind.i64.wrap ((m : Int) - (x : Int)) = ((m - x : Nat) : Int) := by rw [IntKind.wrap_i64]; have := HMM.out; omega
        have HL1 := Lib.hid hle
        clear hle
        go_wp2_with fail
        refine C1.out.mono ?_
        rintro e w1 ⟨⟨y, rfl, hy⟩, hb⟩
        have S1 := Lib.hid (SN.out.add HL1.out hy)
        have ov : IntKind.i64.wrap ((x : Int) + (y : Int)) = ((x + y : Nat) : Int) := by rw [IntKind.wrap_i64]; have := hy.1; have := HX.out; have := HMM.out; omega
        have BEL1 := Lib.hid (BEL.out.trans (hb.mono BEL.out.size))
        have c3 := (p_cells ((hb.block _ (Array.getElem?_eq_some_iff.1 HP.out).1).trans HP.out)).2.2.2
        dsimp only at c3
        obtain ⟨x2, hx⟩ : ∃ z, x + y = z := ⟨_, rfl⟩
        have hx' : ((x + y : Nat) : Int) = (x2 : Int) := by omega
        rw [hx'] at ov
        rw [hx] at S1
        go_upto_region 12 with fail
        clear hy hb hx hx' os1 z1 ov C1 c1 c2
        have HX2 : Hid (x2 ≤ 200002) := by have := S1.out.1; have := HMM.out; show _ ≤ _; omega
        by_cases h2 : x2 ≤ m
        · have z1 : (x2 : Int) ≤ (m : Int) := by omega
          have C1 := Lib.hid (gWgS_any B ss ks (m - x2) w1 (I2.out.below BEL1.out HB.out) (Nat.le_trans HB.out BEL1.out.size) (by have := HMM.out; omega))
          have os1 : IntKind.i64.wrap ((m : Int) - (x2 : Int)) = ((m - x2 : Nat) : Int) := by rw [IntKind.wrap_i64]; have := HMM.out; omega
          have HL2 := Lib.hid h2
          clear h2
          go_wp2_with fail
          refine C1.out.mono ?_
          rintro e w2 ⟨⟨y, rfl, hy⟩, hb⟩
          have S2 := Lib.hid (S1.out.add HL2.out hy)
          have ov : IntKind.i64.wrap ((x2 : Int) + (y : Int)) = ((x2 + y : Nat) : Int) := by rw [IntKind.wrap_i64]; have := hy.1; have := HX2.out; have := HMM.out; omega
          have BEL2 := Lib.hid (BEL1.out.trans (hb.mono BEL1.out.size))
          clear hy hb
          go_wp2_with fail
          go_ret
          exact ⟨⟨x2 + y, by simp, S2.out⟩, BEL2.out⟩
        · have z1 : ¬ (x2 : Int) ≤ (m : Int) := by omega
          have R := Lib.hid (S1.out.more (u := (⟨tk, ⟨ao, j, c⟩, k, is, ki, ss, ks⟩ : Pr).wt) (by omega) (by unfold Pr.wt; dsimp only; omega))
          clear h2
          go_wp2_with fail
          go_ret
          exact ⟨⟨x2, rfl, R.out⟩, BEL1.out⟩
      · have z1 : ¬ (x : Int) ≤ (m : Int) := by omega
        have R := Lib.hid (SN.out.more (u := (⟨tk, ⟨ao, j, c⟩, k, is, ki, ss, ks⟩ : Pr).wt) (by omega) (by unfold Pr.wt; dsimp only; omega))
        clear hle c2 c3
        go_wp2_with fail
        go_ret
        exact ⟨⟨x, rfl, R.out⟩, BEL.out⟩
end Go.Proofs.YtgjgcehoakacoaaGreatDoor
