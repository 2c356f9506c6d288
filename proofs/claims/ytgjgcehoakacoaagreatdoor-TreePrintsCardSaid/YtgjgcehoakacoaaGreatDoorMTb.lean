/-
  Counting by flyballref10 (exprs, count, Count): plain reading; the world stays as it is.
  Counting by flyballref10 (count, Count): plain reading.
  Package tree's Count: the tally's methods. Condition: the tally lies in a block of its own.
  Package tree's Count.
-/
import Derived.Test.YtgjgcehoakacoaaGreatDoorMTa
namespace Go.Proofs.YtgjgcehoakacoaaGreatDoor
open Go.RowKit
set_option maxRecDepth 100000

set_option maxHeartbeats 1600000 in
theorem gExprs_of (s : Sl) (k : Nat → Ex) (B : Nat) (w : World) (hX : XsIn B w s k) (hn : sm (fun i => (k i).cnt) s.n ≤ 100000)
    (ih : ∀ i, i < s.n → Calls Tryz.prog 67 #[.slice (k i).h.s.ao (k i).h.s.n (k i).h.s.c] w fun e w' => e = .returned (.int .i64 ((sm (fun j => ((k i).k j).cnt) (k i).h.s.n : Nat) : Int)) ∧ w' = w) :
    Calls Tryz.prog 67 #[.slice s.ao s.n s.c] w fun e w' => e = .returned (.int .i64 (sm (fun i => (k i).cnt) s.n : Int)) ∧ w' = w := by
  have HX := Lib.hid hX
  have HI := Lib.hid ih
  have HN := Lib.hid hn
  have hc := hX.1
  have hmx : s.n ≤ maxLen := Nat.le_trans hc.1 hc.2.1
  unfold maxLen at hmx
  have HM := Lib.hid hmx
  obtain ⟨ao, n, c⟩ := s
  dsimp only at *
  clear hX ih hn hc hmx
  go_enter Tryz.func67, Tryz.ntmps67
  go_wp2_with fail
  go_loopg [3, 4] n (fun gk t i wr => ∃ j : Nat, i = .int .i64 (j : Int) ∧ t = .int .i64 ((sm (fun i => (k i).cnt) j : Nat) : Int) ∧ Hid (gk = n - j ∧ j ≤ n) ∧ wr = w)
  case atStart => exact ⟨0, rfl, rfl, ⟨rfl, Nat.zero_le _⟩, rfl⟩
  case round =>
    obtain ⟨j, rfl, rfl, HJ, rfl⟩ := hrel
    by_cases hlt : j < n
    · have z0 : (j : Int) < (n : Int) := by omega
      have ovi : IntKind.i64.wrap ((j : Int) + 1) = ((j + 1 : Nat) : Int) := by have := HM.out; rw [IntKind.wrap_i64]; omega
      obtain ⟨a, b, o, rfl, hA, -, X, -⟩ := XsIn.at HX.out (i := j) hlt
      have c6 := X.c6
      have C := Lib.hid (HI.out j hlt)
      have hs : sm (fun i => (k i).cnt) (j + 1) = sm (fun i => (k i).cnt) j + (1 + sm (fun i => ((k j).k i).cnt) (k j).h.s.n) := by show _ + (k j).cnt = _; rw [Ex.cnt_eq (k j)]
      have hl := sm_le (f := fun i => (k i).cnt) (show j + 1 ≤ n by omega)
      have hN := HN.out
      obtain ⟨y, hy⟩ : ∃ y, sm (fun i => (k i).cnt) (j + 1) = y := ⟨_, rfl⟩
      have HY := Lib.hid hy
      rw [hy] at hs hl
      generalize sm (fun i => (k i).cnt) j = x at *
      generalize sm (fun i => ((k j).k i).cnt) (k j).h.s.n = z at *
      have ov1 : IntKind.i64.wrap ((x : Int) + 1) = (x : Int) + 1 := by rw [IntKind.wrap_i64]; omega
      have ov2 : IntKind.i64.wrap ((x : Int) + 1 + (z : Int)) = (y : Int) := by rw [IntKind.wrap_i64]; omega
      clear hs hl hN X hy
      go_wp2_with fail
      refine C.out.mono ?_
      rintro e w' ⟨rfl, rfl⟩
      go_wp2_with fail
      go_roundg (n - (j + 1))
      case measure => have := HJ.out; omega
      case rel => exact ⟨j + 1, by go_num, by rw [HY.out], ⟨rfl, hlt⟩, rfl⟩
    · obtain rfl : j = n := by have := HJ.out; omega
      clear hlt
      go_wp2_with fail
      go_ret
      exact ⟨rfl, rfl⟩
theorem gExprs_e (B : Nat) (w : World) (e : Ex) : e.In B w → e.cnt ≤ 100000 → Calls Tryz.prog 67 #[.slice e.h.s.ao e.h.s.n e.h.s.c] w fun x w' => x = .returned (.int .i64 ((sm (fun j => (e.k j).cnt) e.h.s.n : Nat) : Int)) ∧ w' = w := by
  induction e using Ex.ind with
  | H e ih =>
    intro hI hc
    rw [Ex.cnt_eq] at hc
    exact gExprs_of e.h.s e.k B w hI.xs (by omega) fun i hi => ih i hi (hI.xs.2.2 i hi) (by have := sm_one (f := fun i => (e.k i).cnt) hi; omega)
theorem gExprs_any (s : Sl) (k : Nat → Ex) (B : Nat) (w : World) (hX : XsIn B w s k) (hn : sm (fun i => (k i).cnt) s.n ≤ 100000) :
    Calls Tryz.prog 67 #[.slice s.ao s.n s.c] w fun e w' => e = .returned (.int .i64 (sm (fun i => (k i).cnt) s.n : Int)) ∧ w' = w :=
  gExprs_of s k B w hX hn fun i hi => gExprs_e B w (k i) (hX.2.2 i hi) (by have := sm_one (f := fun i => (k i).cnt) hi; omega)
end Go.Proofs.YtgjgcehoakacoaaGreatDoor
namespace Go.Proofs.YtgjgcehoakacoaaGreatDoor
open Go.RowKit
set_option maxRecDepth 100000

/-- What count answers. -/
def CntOk (w : World) (s : Sl) (cs ce : Nat) : Prop := Calls Tryz.prog 38 #[.slice s.ao s.n s.c] w fun e w' => e = .returned (.tuple #[.int .i64 (cs : Int), .int .i64 (ce : Int)]) ∧ w' = w
set_option maxHeartbeats 3200000 in
theorem gCnt_of (s : Sl) (k : Nat → St) (B : Nat) (w : World) (hX : SsIn B w s k) (hn : sm (fun i => (k i).cs) s.n ≤ 100000) (hn' : sm (fun i => (k i).ce) s.n ≤ 100000)
    (ih : ∀ i, i < s.n → CntOk w (k i).h.ts (sm (fun j => ((k i).t j).cs) (k i).h.ts.n) (sm (fun j => ((k i).t j).ce) (k i).h.ts.n) ∧ CntOk w (k i).h.es (sm (fun j => ((k i).l j).cs) (k i).h.es.n) (sm (fun j => ((k i).l j).ce) (k i).h.es.n)) :
    CntOk w s (sm (fun i => (k i).cs) s.n) (sm (fun i => (k i).ce) s.n) := by
  have HX := Lib.hid hX
  have HI := Lib.hid ih
  have HN := Lib.hid (And.intro hn hn')
  have hc := hX.1
  have hmx : s.n ≤ maxLen := Nat.le_trans hc.1 hc.2.1
  unfold maxLen at hmx
  have HM := Lib.hid hmx
  obtain ⟨ao, n, c⟩ := s
  dsimp only at *
  unfold CntOk
  clear hX ih hn hn' hc hmx
  go_enter Tryz.func38, Tryz.ntmps38
  go_wp2_with fail
  go_loopg [4, 5, 6] n (fun gk t u i wr => ∃ j : Nat, i = .int .i64 (j : Int) ∧ t = .int .i64 ((sm (fun i => (k i).cs) j : Nat) : Int) ∧ u = .int .i64 ((sm (fun i => (k i).ce) j : Nat) : Int) ∧ Hid (gk = n - j ∧ j ≤ n) ∧ wr = w)
  case atStart => exact ⟨0, rfl, rfl, rfl, ⟨rfl, Nat.zero_le _⟩, rfl⟩
  case round =>
    obtain ⟨j, rfl, rfl, rfl, HJ, rfl⟩ := hrel
    by_cases hlt : j < n
    · have z0 : (j : Int) < (n : Int) := by omega
      have ovi : IntKind.i64.wrap ((j : Int) + 1) = ((j + 1 : Nat) : Int) := by have := HM.out; rw [IntKind.wrap_i64]; omega
      obtain ⟨a, b, o, rfl, hA, -, X, I⟩ := SsIn.at HX.out (i := j) hlt
      have c0 := X.c0; have c3 := X.c3; have c10 := X.c10; have c13 := X.c13; have c14 := X.c14
      obtain ⟨C1, C2⟩ := HI.out j hlt
      have hs : sm (fun i => (k i).cs) (j + 1) = sm (fun i => (k i).cs) j + (k j).cs := rfl
      have hs' : sm (fun i => (k i).ce) (j + 1) = sm (fun i => (k i).ce) j + (k j).ce := rfl
      rw [St.cs_eq] at hs
      rw [St.ce_eq, Ex.cnt_eq] at hs'
      have hl := sm_le (f := fun i => (k i).cs) (show j + 1 ≤ n by omega)
      have hl' := sm_le (f := fun i => (k i).ce) (show j + 1 ≤ n by omega)
      have hN := HN.out
      have C3 := gExprs_any (k j).h.xs (k j).x B _ I.xs
      have C4 := gExprs_any (k j).e.h.s (k j).e.k B _ I.ex.xs
      obtain ⟨y, hy⟩ : ∃ y, sm (fun i => (k i).cs) (j + 1) = y := ⟨_, rfl⟩
      obtain ⟨y', hy'⟩ : ∃ y, sm (fun i => (k i).ce) (j + 1) = y := ⟨_, rfl⟩
      have HY := Lib.hid hy
      have HY' := Lib.hid hy'
      rw [hy] at hs hl
      rw [hy'] at hs' hl'
      generalize sm (fun i => (k i).cs) j = x at *
      generalize sm (fun i => (k i).ce) j = x' at *
      generalize sm (fun i => ((k j).t i).cs) (k j).h.ts.n = z1 at *
      generalize sm (fun i => ((k j).t i).ce) (k j).h.ts.n = z2 at *
      generalize sm (fun i => ((k j).l i).cs) (k j).h.es.n = z3 at *
      generalize sm (fun i => ((k j).l i).ce) (k j).h.es.n = z4 at *
      generalize sm (fun i => ((k j).x i).cnt) (k j).h.xs.n = z5 at *
      generalize sm (fun i => ((k j).e.k i).cnt) (k j).e.h.s.n = z6 at *
      unfold CntOk at C1 C2
      generalize (k j).h.kd = kd at *
      have C3 := Lib.hid (C3 (by omega))
      have C1 := Lib.hid C1
      have C2 := Lib.hid C2
      have ov1 : IntKind.i64.wrap ((x : Int) + 1) = (x : Int) + 1 := by rw [IntKind.wrap_i64]; omega
      have ov2 : IntKind.i64.wrap ((x : Int) + 1 + (z1 : Int)) = (x : Int) + 1 + z1 := by rw [IntKind.wrap_i64]; omega
      have ov3 : IntKind.i64.wrap ((x : Int) + 1 + (z1 : Int) + z3) = (y : Int) := by rw [IntKind.wrap_i64]; omega
      have ov4 : IntKind.i64.wrap ((x' : Int) + (z2 : Int)) = (x' : Int) + z2 := by rw [IntKind.wrap_i64]; omega
      have ov5 : IntKind.i64.wrap ((x' : Int) + z2 + z4) = (x' : Int) + z2 + z4 := by rw [IntKind.wrap_i64]; omega
      have ov6 : IntKind.i64.wrap ((x' : Int) + z2 + z4 + z5) = (x' : Int) + z2 + z4 + z5 := by rw [IntKind.wrap_i64]; omega
      by_cases hk : kd = 1 ∨ kd = 2
      · rw [if_pos hk] at hs'
        have C4 := Lib.hid (C4 (by omega))
        have ov7 : IntKind.i64.wrap ((x' : Int) + z2 + z4 + z5 + 1) = (x' : Int) + z2 + z4 + z5 + 1 := by rw [IntKind.wrap_i64]; omega
        have ov8 : IntKind.i64.wrap ((x' : Int) + z2 + z4 + z5 + 1 + z6) = (y' : Int) := by rw [IntKind.wrap_i64]; omega
        clear hs hs' hl hl' hN X hy hy' I
        go_wp2_with fail
        refine C1.out.mono ?_
        rintro e w' ⟨rfl, rfl⟩
        go_wp2_with fail
        refine C2.out.mono ?_
        rintro e w' ⟨rfl, rfl⟩
        go_wp2_with fail
        refine C3.out.mono ?_
        rintro e w' ⟨rfl, rfl⟩
        rcases hk with rfl | rfl
        · go_wp2_with fail
          refine C4.out.mono ?_
          rintro e w' ⟨rfl, rfl⟩
          go_wp2_with fail
          go_roundg (n - (j + 1))
          case measure => have := HJ.out; omega
          case rel => exact ⟨j + 1, by go_num, by rw [HY.out], by rw [HY'.out], ⟨rfl, hlt⟩, rfl⟩
        · go_wp2_with fail
          refine C4.out.mono ?_
          rintro e w' ⟨rfl, rfl⟩
          go_wp2_with fail
          go_roundg (n - (j + 1))
          case measure => have := HJ.out; omega
          case rel => exact ⟨j + 1, by go_num, by rw [HY.out], by rw [HY'.out], ⟨rfl, hlt⟩, rfl⟩
      · rw [if_neg hk] at hs'
        have k1 : ¬ kd = 1 := fun h => hk (.inl h)
        have k2 : ¬ kd = 2 := fun h => hk (.inr h)
        have e6 : (x' : Int) + z2 + z4 + z5 = (y' : Int) := by omega
        have E6 := Lib.hid e6
        have q1 : (kd == 1) = false := by simpa using k1
        have q2 : (kd == 2) = false := by simpa using k2
        clear hs hs' hl hl' hN X hy hy' I C4 hk e6 k1 k2
        go_wp2_with fail
        refine C1.out.mono ?_
        rintro e w' ⟨rfl, rfl⟩
        go_wp2_with fail
        refine C2.out.mono ?_
        rintro e w' ⟨rfl, rfl⟩
        go_wp2_with fail
        refine C3.out.mono ?_
        rintro e w' ⟨rfl, rfl⟩
        go_wp2_with fail
        go_roundg (n - (j + 1))
        case measure => have := HJ.out; omega
        case rel => exact ⟨j + 1, by go_num, by rw [HY.out], by rw [HY'.out, E6.out], ⟨rfl, hlt⟩, rfl⟩
    · obtain rfl : j = n := by have := HJ.out; omega
      clear hlt
      go_wp2_with fail
      go_ret2
      exact ⟨rfl, rfl⟩
theorem gCnt_e (B : Nat) (w : World) (s : St) : s.In B w → s.cs ≤ 100000 → s.ce ≤ 100000 → CntOk w s.h.ts (sm (fun j => (s.t j).cs) s.h.ts.n) (sm (fun j => (s.t j).ce) s.h.ts.n) ∧ CntOk w s.h.es (sm (fun j => (s.l j).cs) s.h.es.n) (sm (fun j => (s.l j).ce) s.h.es.n) := by
  induction s using St.ind with
  | H s it il =>
    intro hI hc hc'
    rw [St.cs_eq] at hc
    rw [St.ce_eq] at hc'
    refine ⟨gCnt_of s.h.ts s.t B w hI.ts (by omega) (by omega) fun i hi => it i hi (hI.ts.2.2 i hi) ?_ ?_, gCnt_of s.h.es s.l B w hI.es (by omega) (by omega) fun i hi => il i hi (hI.es.2.2 i hi) ?_ ?_⟩
    · have := sm_one (f := fun i => (s.t i).cs) hi; omega
    · have := sm_one (f := fun i => (s.t i).ce) hi; omega
    · have := sm_one (f := fun i => (s.l i).cs) hi; omega
    · have := sm_one (f := fun i => (s.l i).ce) hi; omega
theorem gCnt_any (s : Sl) (k : Nat → St) (B : Nat) (w : World) (hX : SsIn B w s k) (hn : sm (fun i => (k i).cs) s.n ≤ 100000) (hn' : sm (fun i => (k i).ce) s.n ≤ 100000) :
    CntOk w s (sm (fun i => (k i).cs) s.n) (sm (fun i => (k i).ce) s.n) :=
  gCnt_of s k B w hX hn hn' fun i hi => gCnt_e B w (k i) (hX.2.2 i hi) (by have := sm_one (f := fun i => (k i).cs) hi; omega) (by have := sm_one (f := fun i => (k i).ce) hi; omega)
theorem gCount_any (p : Pr) (B : Nat) (w : World) (hp : p.In B w) (hB : B ≤ w.heap.size) (hn : p.cs ≤ 100000) (hn' : p.ce ≤ 100000) :
    Calls Tryz.prog 15 #[p.v] w fun e w' => e = .returned (.tuple #[.int .i64 (p.cs : Int), .int .i64 (p.ce : Int)]) ∧ Below w.heap.size w w' := by
  obtain ⟨t, ds, d, is, i, ss, s⟩ := p
  have h1 : sm (fun j => (i j).cs) is.n + sm (fun j => (s j).cs) ss.n ≤ 100000 := hn
  have h2 : sm (fun j => (i j).ce) is.n + sm (fun j => (s j).ce) ss.n ≤ 100000 := hn'
  have C1 := fun w' hI => gCnt_any is i B w' hI (by omega) (by omega)
  have C2 := fun w' hI => gCnt_any ss s B w' hI (by omega) (by omega)
  have I1 := Lib.hid hp.2.2.1
  have I2 := Lib.hid hp.2.2.2
  unfold Pr.cs Pr.ce Pr.v
  dsimp only at *
  generalize sm (fun j => (i j).cs) is.n = x1 at *
  generalize sm (fun j => (i j).ce) is.n = x2 at *
  generalize sm (fun j => (s j).cs) ss.n = x3 at *
  generalize sm (fun j => (s j).ce) ss.n = x4 at *
  have ov1 : IntKind.i64.wrap ((x1 : Int) + x3) = ((x1 + x3 : Nat) : Int) := by rw [IntKind.wrap_i64]; omega
  have ov2 : IntKind.i64.wrap ((x2 : Int) + x4) = ((x2 + x4 : Nat) : Int) := by rw [IntKind.wrap_i64]; omega
  have C1 := Lib.hid C1
  have C2 := Lib.hid C2
  have HB := Lib.hid hB
  clear hp hn hn' h1 h2 hB
  unfold CntOk at C1 C2
  go_enter Tryz.func15, Tryz.ntmps15
  go_wp2_with fail
  refine (C1.out _ (I1.out.below (bel_alloc (Below.refl _ _) _) HB.out)).mono ?_
  rintro e w' ⟨rfl, rfl⟩
  go_wp2_with fail
  refine (C2.out _ (I2.out.below (bel_alloc (Below.refl _ _) _) HB.out)).mono ?_
  rintro e w' ⟨rfl, rfl⟩
  go_wp2_with fail
  go_ret2
  exact ⟨by go_num, bel_alloc (Below.refl _ _) _⟩
end Go.Proofs.YtgjgcehoakacoaaGreatDoor
namespace Go.Proofs.YtgjgcehoakacoaaGreatDoor
open Go.RowKit
set_option maxRecDepth 100000

/-- A tally in block b. -/
def Tal (b s x : Nat) (w : World) : Prop := w.heap[b]? = some (.cells #[.int .i64 (s : Int), .int .i64 (x : Int)] 79 (0, 0))
theorem Tal.lt {b s x : Nat} {w : World} (h : Tal b s x w) : b < w.heap.size := (Array.getElem?_eq_some_iff.1 h).1
theorem Tal.bx {b s x : Nat} {w : World} (h : Tal b s x w) (o : Obj) : Tal b s x (bx w o) := (bx_old w o h.lt).trans h
theorem Tal.set1 {b s x y : Nat} {w : World} (h : Tal b s x w) {z : Int} (hz : z = y) : Tal b s y (w.setCell ⟨b, 1, none⟩ (.int .i64 z)) := by
  subst hz
  unfold Tal at *
  simp [World.setCell, Array.getElem?_modify, h]
theorem Tal.set0 {b s x y : Nat} {w : World} (h : Tal b s x w) {z : Int} (hz : z = y) : Tal b y x (w.setCell ⟨b, 0, none⟩ (.int .i64 z)) := by
  subst hz
  unfold Tal at *
  simp [World.setCell, Array.getElem?_modify, h]
theorem set_other {w : World} {b j k : Nat} {v : Value} (h : k ≠ b) : (w.setCell ⟨b, j, none⟩ v).heap[k]? = w.heap[k]? := Below.heap_setCell _ _ _ _ h
/-- What addExpr answers, whatever the world. -/
def AddXOk (B : Nat) (e : Ex) : Prop := ∀ (b s x : Nat) (w : World), e.In B w → Tal b s x w → B ≤ b → x + e.cnt ≤ 100000 → Calls Tryz.prog 66 #[.pointer (some ⟨b, 0, none⟩), e.h.v] w fun r w' => r = .returned (.tuple #[]) ∧ Tal b s (x + e.cnt) w' ∧ Fr B b w w'
set_option maxHeartbeats 1600000 in
theorem tAddXs_of (B : Nat) (sl : Sl) (k : Nat → Ex) (ih : ∀ i, i < sl.n → AddXOk B (k i)) (b s x : Nat) (w : World) (hX : XsIn B w sl k) (hT : Tal b s x w) (hB : B ≤ b) (hx : x + sm (fun i => (k i).cnt) sl.n ≤ 100000) :
    Calls Tryz.prog 65 #[.pointer (some ⟨b, 0, none⟩), .slice sl.ao sl.n sl.c] w fun r w' => r = .returned (.tuple #[]) ∧ Tal b s (x + sm (fun i => (k i).cnt) sl.n) w' ∧ Fr B b w w' := by
  have HX := Lib.hid hX
  have HI := Lib.hid ih
  have HT := Lib.hid hT
  have HB := Lib.hid hB
  have HN := Lib.hid hx
  have hc := hX.1
  have hmx : sl.n ≤ maxLen := Nat.le_trans hc.1 hc.2.1
  unfold maxLen at hmx
  have HM := Lib.hid hmx
  obtain ⟨ao, n, c⟩ := sl
  dsimp only at *
  clear hX ih hT hB hx hc hmx
  go_enter Tryz.func65, Tryz.ntmps65
  go_wp2_with fail
  go_loopg [8] n (fun gk i wr => ∃ j : Nat, i = .int .i64 (j : Int) ∧ Hid (gk = n - j ∧ j ≤ n) ∧ Hid (Tal b s (x + sm (fun i => (k i).cnt) j) wr) ∧ Hid (Fr B b w wr))
  case atStart => exact ⟨0, rfl, ⟨rfl, Nat.zero_le _⟩, HT.out, Fr.refl _ (by have := HT.out.lt; have := HB.out; omega)⟩
  case round =>
    obtain ⟨j, rfl, HJ, HTj, HF⟩ := hrel
    by_cases hlt : j < n
    · have z0 : (j : Int) < (n : Int) := by omega
      have ovi : IntKind.i64.wrap ((j : Int) + 1) = ((j + 1 : Nat) : Int) := by have := HM.out; rw [IntKind.wrap_i64]; omega
      obtain ⟨a, b1, o, rfl, hA, hb1, X, I⟩ := XsIn.at (HX.out.below HF.out.1 (Nat.le_refl _)) (i := j) hlt
      have c0 := X.c0; have c1 := X.c1; have c2 := X.c2; have c3 := X.c3; have c4 := X.c4; have c5 := X.c5; have c6 := X.c6
      have II := Lib.hid I
      clear X hb1 I
      go_wp2_with fail
      refine (HI.out j hlt b s _ (bx wr (xO (k j).h)) (II.out.below (bx_bel (Below.refl _ _) (Nat.le_refl _) _) HF.out.size) (HTj.out.bx _) HB.out ?_).mono ?_
      · have := sm_one (f := fun i => (k i).cnt) hlt
        have := HN.out
        omega
      rintro e w' ⟨rfl, hT', hF'⟩
      have HT2 := Lib.hid hT'
      have HF2 := Lib.hid ((HF.out.bx (xO (k j).h)).trans hF')
      clear hT' hF'
      go_wp2_with fail
      go_roundg (n - (j + 1))
      case measure => have := HJ.out; omega
      case rel => exact ⟨j + 1, by go_num, ⟨rfl, hlt⟩, by have := HT2.out; rwa [Nat.add_assoc] at this, HF2.out⟩
    · obtain rfl : j = n := by have := HJ.out; omega
      clear hlt
      go_wp2_with fail
      go_end0
      exact ⟨rfl, HTj.out, HF.out⟩
set_option maxHeartbeats 1600000 in
theorem tAddX_of (B : Nat) (h : EH) (k : Nat → Ex) (ih : ∀ i, i < h.s.n → AddXOk B (k i)) (b s x : Nat) (w : World) (hI : XsIn B w h.s k) (hT : Tal b s x w) (hB : B ≤ b) (hc : x + (1 + sm (fun i => (k i).cnt) h.s.n) ≤ 100000) :
    Calls Tryz.prog 66 #[.pointer (some ⟨b, 0, none⟩), h.v] w fun r w' => r = .returned (.tuple #[]) ∧ Tal b s (x + (1 + sm (fun i => (k i).cnt) h.s.n)) w' ∧ Fr B b w w' := by
  have C := Lib.hid fun w hX hT => tAddXs_of B h.s k ih b s (x + 1) w hX hT hB (by omega)
  have HI := Lib.hid hI
  have HT := Lib.hid hT
  have HB := Lib.hid hB
  have ov : IntKind.i64.wrap ((x : Int) + 1) = ((x + 1 : Nat) : Int) := by rw [IntKind.wrap_i64]; omega
  have hb : b < w.heap.size := hT.lt
  have t1 : (bx w (xO h)).cell? ⟨b, 1, none⟩ = some (.int .i64 (x : Int)) := cell_obj (hT.bx _) 1
  have f1 : (bx w (xO h)).frozen? ⟨b, 1, none⟩ = false := frozen_obj (hT.bx _) 1
  have c6 : ∀ v, ((bx w (xO h)).setCell ⟨b, 1, none⟩ v).cell? ⟨w.heap.size, 6, none⟩ = some (.slice h.s.ao h.s.n h.s.c) := fun v => by
    refine (x_cells (h := h) ?_).2.2.2.2.2.2
    rw [set_other (by omega)]
    exact bx_new _ _
  clear ih hI hT hB hc hb
  show Calls Tryz.prog 66 #[.pointer (some ⟨b, 0, none⟩), .agg #[.int .u8 h.op, .int .i64 h.ps, .bool h.bo, .int .i32 h.it, .int .u64 h.fl, .string ⟨h.nm.toArray⟩, .slice h.s.ao h.s.n h.s.c]] w _
  go_enter Tryz.func66, Tryz.ntmps66
  go_upto_region 1 with fail
  rw [bx_x]
  go_wp2_with fail
  have FF : Fr B b w ((bx w (xO h)).setCell ⟨b, 1, none⟩ (.int .i64 ((x : Int) + 1))) := ((Fr.refl b (by have := HT.out.lt; have := HB.out; omega)).bx _).setCell HB.out 1 _
  refine (C.out _ (HI.out.below FF.1 (Nat.le_refl _)) ((HT.out.bx _).set1 rfl)).mono ?_
  rintro e w' ⟨rfl, hT', hF'⟩
  have HT2 := Lib.hid hT'
  have HF2 := Lib.hid (FF.trans hF')
  clear hT' hF' FF
  go_wp2_with fail
  go_end0
  exact ⟨rfl, by have := HT2.out; rwa [Nat.add_assoc] at this, HF2.out⟩
theorem tAddX_any (B : Nat) (e : Ex) : AddXOk B e := by
  induction e using Ex.ind with
  | H e ih =>
    intro b s x w hI hT hB hx
    rw [Ex.cnt_eq] at hx ⊢
    exact tAddX_of B e.h e.k ih b s x w hI.xs hT hB hx
theorem tAddXs_any (B : Nat) (sl : Sl) (k : Nat → Ex) (b s x : Nat) (w : World) (hX : XsIn B w sl k) (hT : Tal b s x w) (hB : B ≤ b) (hx : x + sm (fun i => (k i).cnt) sl.n ≤ 100000) :
    Calls Tryz.prog 65 #[.pointer (some ⟨b, 0, none⟩), .slice sl.ao sl.n sl.c] w fun r w' => r = .returned (.tuple #[]) ∧ Tal b s (x + sm (fun i => (k i).cnt) sl.n) w' ∧ Fr B b w w' :=
  tAddXs_of B sl k (fun i _ => tAddX_any B (k i)) b s x w hX hT hB hx

/-- What addStmts answers. -/
def AddSOk (B : Nat) (sl : Sl) (k : Nat → St) : Prop := ∀ (b s x : Nat) (w : World), SsIn B w sl k → Tal b s x w → B ≤ b → s + sm (fun i => (k i).cs) sl.n ≤ 100000 → x + sm (fun i => (k i).ce) sl.n ≤ 100000 →
  Calls Tryz.prog 37 #[.pointer (some ⟨b, 0, none⟩), .slice sl.ao sl.n sl.c] w fun r w' => r = .returned (.tuple #[]) ∧ Tal b (s + sm (fun i => (k i).cs) sl.n) (x + sm (fun i => (k i).ce) sl.n) w' ∧ Fr B b w w'
set_option maxHeartbeats 3200000 in
theorem tAddS_of (B : Nat) (sl : Sl) (k : Nat → St) (ih : ∀ i, i < sl.n → AddSOk B (k i).h.ts (k i).t ∧ AddSOk B (k i).h.es (k i).l) : AddSOk B sl k := by
  intro b s x w hX hT hB hs hx
  have HX := Lib.hid hX
  have HI := Lib.hid ih
  have HT := Lib.hid hT
  have HB := Lib.hid hB
  have HN := Lib.hid (And.intro hs hx)
  have hc := hX.1
  have hmx : sl.n ≤ maxLen := Nat.le_trans hc.1 hc.2.1
  unfold maxLen at hmx
  have HM := Lib.hid hmx
  obtain ⟨ao, n, c⟩ := sl
  dsimp only at *
  clear hX ih hT hB hx hs hc hmx
  go_enter Tryz.func37, Tryz.ntmps37
  go_wp2_with fail
  go_loopg [8] n (fun gk i wr => ∃ j : Nat, i = .int .i64 (j : Int) ∧ Hid (gk = n - j ∧ j ≤ n) ∧ Hid (Tal b (s + sm (fun i => (k i).cs) j) (x + sm (fun i => (k i).ce) j) wr) ∧ Hid (Fr B b w wr))
  case atStart => exact ⟨0, rfl, ⟨rfl, Nat.zero_le _⟩, HT.out, Fr.refl _ (by have := HT.out.lt; have := HB.out; omega)⟩
  case round =>
    obtain ⟨j, rfl, HJ, HTj, HF⟩ := hrel
    by_cases hlt : j < n
    · have z0 : (j : Int) < (n : Int) := by omega
      have ovi : IntKind.i64.wrap ((j : Int) + 1) = ((j + 1 : Nat) : Int) := by have := HM.out; rw [IntKind.wrap_i64]; omega
      obtain ⟨a, b1, o, rfl, hA, hb1, X, I⟩ := SsIn.at (HX.out.below HF.out.1 (Nat.le_refl _)) (i := j) hlt
      have c0 := X.c0; have c1 := X.c1; have c2 := X.c2; have c3 := X.c3; have c4 := X.c4; have c5 := X.c5; have c6 := X.c6; have c7 := X.c7; have c8 := X.c8; have c9 := X.c9; have c10 := X.c10; have c11 := X.c11; have c12 := X.c12; have c13 := X.c13; have c14 := X.c14
      have II := Lib.hid I
      have hs1 : sm (fun i => (k i).cs) (j + 1) = sm (fun i => (k i).cs) j + (k j).cs := rfl
      have hs2 : sm (fun i => (k i).ce) (j + 1) = sm (fun i => (k i).ce) j + (k j).ce := rfl
      rw [St.cs_eq] at hs1
      rw [St.ce_eq] at hs2
      have hl := sm_le (f := fun i => (k i).cs) (show j + 1 ≤ n by omega)
      have hl' := sm_le (f := fun i => (k i).ce) (show j + 1 ≤ n by omega)
      have hN := HN.out
      have h3 := (HI.out j hlt).1
      have h4 := (HI.out j hlt).2
      unfold AddSOk at h3 h4
      obtain ⟨y1, hy1⟩ : ∃ y, sm (fun i => (k i).cs) (j + 1) = y := ⟨_, rfl⟩
      obtain ⟨y2, hy2⟩ : ∃ y, sm (fun i => (k i).ce) (j + 1) = y := ⟨_, rfl⟩
      have HY1 := Lib.hid hy1
      have HY2 := Lib.hid hy2
      rw [hy1] at hs1 hl
      rw [hy2] at hs2 hl'
      have C1 := Lib.hid fun s x w' hX hT hB hx => tAddXs_any B (k j).h.xs (k j).x b s x w' hX hT hB hx
      have C2 := Lib.hid fun s x w' hI hT hB hx => tAddX_any B (k j).e b s x w' hI hT hB hx
      generalize sm (fun i => (k i).cs) j = x1 at *
      generalize sm (fun i => (k i).ce) j = x2 at *
      generalize sm (fun i => ((k j).t i).cs) (k j).h.ts.n = t1 at *
      generalize sm (fun i => ((k j).t i).ce) (k j).h.ts.n = t2 at *
      generalize sm (fun i => ((k j).l i).cs) (k j).h.es.n = l1 at *
      generalize sm (fun i => ((k j).l i).ce) (k j).h.es.n = l2 at *
      generalize sm (fun i => ((k j).x i).cnt) (k j).h.xs.n = z5 at *
      have C3 := Lib.hid fun s x w hX hT hs hx => h3 b s x w hX hT HB.out hs hx
      have C4 := Lib.hid fun s x w hX hT hs hx => h4 b s x w hX hT HB.out hs hx
      have ov1 : IntKind.i64.wrap ((s : Int) + (x1 : Int) + 1) = (s : Int) + x1 + 1 := by rw [IntKind.wrap_i64]; omega
      have HS1 := Lib.hid hs1
      have HS2 := Lib.hid hs2
      have HL := Lib.hid (And.intro hl hl')
      have d0 : (bx wr (sO (k j).h (k j).e.h)).cell? ⟨b, 0, none⟩ = some (.int .i64 ((s : Int) + (x1 : Int))) := by have := cell_obj (HTj.out.bx (sO (k j).h (k j).e.h)) 0; simpa using this
      have f0 : (bx wr (sO (k j).h (k j).e.h)).frozen? ⟨b, 0, none⟩ = false := frozen_obj (HTj.out.bx _) 0
      have H0 := Lib.hid (bx_new wr (sO (k j).h (k j).e.h))
      have hlt' : b < wr.heap.size := HTj.out.lt
      have HLT := Lib.hid hlt'
      have g3 : ∀ v, ((bx wr (sO (k j).h (k j).e.h)).setCell ⟨b, 0, none⟩ v).cell? ⟨wr.heap.size, 3, none⟩ = some (.slice (k j).h.xs.ao (k j).h.xs.n (k j).h.xs.c) := fun v =>
        (s_cells (h := (k j).h) (e := (k j).e.h) ((set_other (by omega)).trans (bx_new _ _))).c3
      clear X hb1 I hs1 hs2 hl hl' hN h3 h4 hy1 hy2 hlt'
      go_upto_region 3 with fail
      rw [bx_s]
      go_wp2_with fail
      have hne : wr.heap.size ≠ b := by have := HLT.out; omega
      have F1 : Fr B b wr ((bx wr (sO (k j).h (k j).e.h)).setCell ⟨b, 0, none⟩ (.int .i64 ((s : Int) + (x1 : Int) + 1))) := ((Fr.refl b HF.out.size).bx _).setCell HB.out 0 _
      refine (C1.out (s + x1 + 1) (x + x2) _ (II.out.xs.below F1.1 (Nat.le_refl _)) ((HTj.out.bx _).set0 (by omega)) HB.out (by have := HN.out; have := HS2.out; have := HL.out; omega)).mono ?_
      rintro e w1 ⟨rfl, hT1, hF1⟩
      have hB1 : w1.heap[wr.heap.size]? = some (sO (k j).h (k j).e.h) := hF1.s ((set_other hne).trans H0.out) hne
      have S1 := s_cells hB1
      have c0 := S1.c0; have c4 := S1.c4; have c5 := S1.c5; have c6 := S1.c6; have c7 := S1.c7; have c8 := S1.c8; have c9 := S1.c9; have c10 := S1.c10; have c13 := S1.c13; have c14 := S1.c14
      have T1 := Lib.hid hT1
      have G1 := Lib.hid (F1.trans hF1)
      have B1 := Lib.hid hB1
      have HNE := Lib.hid hne
      clear d0 f0 g3 hT1 hF1 hB1 S1 F1 hne
      obtain ⟨z6, hz6⟩ : ∃ z : Nat, (if (k j).h.kd = 1 ∨ (k j).h.kd = 2 then (k j).e.cnt else 0) = z := ⟨_, rfl⟩
      have HS3 : Hid (y2 = x2 + (z5 + z6 + t2 + l2)) := by show _ = _; rw [← hz6]; exact HS2.out
      have hk : (k j).h.kd = 1 ∨ (¬ (k j).h.kd = 1 ∧ (k j).h.kd = 2) ∨ (¬ (k j).h.kd = 1 ∧ ¬ (k j).h.kd = 2) := by omega
      clear HS2
      rcases hk with hk | ⟨h1, hk⟩ | ⟨h1, h2⟩
      · rw [if_pos (.inl hk)] at hz6
        have q1 : ((k j).h.kd == 1) = true := by simp [hk]
        clear hk
        go_wp2_with fail
        refine (C2.out (s + x1 + 1) (x + x2 + z5) _ (II.out.ex.below G1.out.1 (Nat.le_refl _)) T1.out HB.out (by rw [hz6]; have := HN.out; have := HS3.out; have := HL.out; omega)).mono ?_
        rintro e w2 ⟨rfl, hT2, hF2⟩
        have hB2 := hF2.s B1.out HNE.out
        have T2 : Hid (Tal b (s + x1 + 1) (x + x2 + z5 + z6) w2) := by rw [hz6] at hT2; exact hT2
        have G2 := Lib.hid (G1.out.trans hF2)
        have S1 := s_cells hB2
        have c13 := S1.c13; have c14 := S1.c14
        have B2 := Lib.hid hB2
        clear hT2 hF2 T1 G1 B1 q1 hz6 c0 c4 c5 c6 c7 c8 c9 c10 S1 hB2
        go_wp2_with fail
        refine (C3.out (s + x1 + 1) (x + x2 + z5 + z6) _ (II.out.ts.below G2.out.1 (Nat.le_refl _)) T2.out (by have := HN.out; have := HS1.out; have := HL.out; omega) (by have := HN.out; have := HS3.out; have := HL.out; omega)).mono ?_
        rintro e w3 ⟨rfl, hT3, hF3⟩
        have hB3 := hF3.s B2.out HNE.out
        have T3 := Lib.hid hT3
        have G3 := Lib.hid (G2.out.trans hF3)
        have S1 := s_cells hB3
        have c14 := S1.c14
        clear hT3 hF3 T2 G2 B2 S1 hB3
        go_wp2_with fail
        refine (C4.out (s + x1 + 1 + t1) (x + x2 + z5 + z6 + t2) _ (II.out.es.below G3.out.1 (Nat.le_refl _)) T3.out (by have := HN.out; have := HS1.out; have := HL.out; omega) (by have := HN.out; have := HS3.out; have := HL.out; omega)).mono ?_
        rintro e w4 ⟨rfl, hT4, hF4⟩
        have T4 := Lib.hid hT4
        have G4 := Lib.hid (G3.out.trans hF4)
        clear hT4 hF4 T3 G3
        go_wp2_with fail
        go_roundg (n - (j + 1))
        case measure => have := HJ.out; omega
        case rel =>
          refine ⟨j + 1, by go_num, ⟨rfl, hlt⟩, ?_, HF.out.trans G4.out⟩
          have := T4.out
          rw [HY1.out, HY2.out, HS1.out, HS3.out]
          rwa [show s + x1 + 1 + t1 + l1 = s + (x1 + (1 + t1 + l1)) by omega, show x + x2 + z5 + z6 + t2 + l2 = x + (x2 + (z5 + z6 + t2 + l2)) by omega] at this
      · rw [if_pos (.inr hk)] at hz6
        have q1 : ((k j).h.kd == 1) = false := by simpa using h1
        have q2 : ((k j).h.kd == 2) = true := by simp [hk]
        clear h1 hk
        go_wp2_with fail
        refine (C2.out (s + x1 + 1) (x + x2 + z5) _ (II.out.ex.below G1.out.1 (Nat.le_refl _)) T1.out HB.out (by rw [hz6]; have := HN.out; have := HS3.out; have := HL.out; omega)).mono ?_
        rintro e w2 ⟨rfl, hT2, hF2⟩
        have hB2 := hF2.s B1.out HNE.out
        have T2 : Hid (Tal b (s + x1 + 1) (x + x2 + z5 + z6) w2) := by rw [hz6] at hT2; exact hT2
        have G2 := Lib.hid (G1.out.trans hF2)
        have S1 := s_cells hB2
        have c13 := S1.c13; have c14 := S1.c14
        have B2 := Lib.hid hB2
        clear hT2 hF2 T1 G1 B1 q1 q2 hz6 c0 c4 c5 c6 c7 c8 c9 c10 S1 hB2
        go_wp2_with fail
        refine (C3.out (s + x1 + 1) (x + x2 + z5 + z6) _ (II.out.ts.below G2.out.1 (Nat.le_refl _)) T2.out (by have := HN.out; have := HS1.out; have := HL.out; omega) (by have := HN.out; have := HS3.out; have := HL.out; omega)).mono ?_
        rintro e w3 ⟨rfl, hT3, hF3⟩
        have hB3 := hF3.s B2.out HNE.out
        have T3 := Lib.hid hT3
        have G3 := Lib.hid (G2.out.trans hF3)
        have S1 := s_cells hB3
        have c14 := S1.c14
        clear hT3 hF3 T2 G2 B2 S1 hB3
        go_wp2_with fail
        refine (C4.out (s + x1 + 1 + t1) (x + x2 + z5 + z6 + t2) _ (II.out.es.below G3.out.1 (Nat.le_refl _)) T3.out (by have := HN.out; have := HS1.out; have := HL.out; omega) (by have := HN.out; have := HS3.out; have := HL.out; omega)).mono ?_
        rintro e w4 ⟨rfl, hT4, hF4⟩
        have T4 := Lib.hid hT4
        have G4 := Lib.hid (G3.out.trans hF4)
        clear hT4 hF4 T3 G3
        go_wp2_with fail
        go_roundg (n - (j + 1))
        case measure => have := HJ.out; omega
        case rel =>
          refine ⟨j + 1, by go_num, ⟨rfl, hlt⟩, ?_, HF.out.trans G4.out⟩
          have := T4.out
          rw [HY1.out, HY2.out, HS1.out, HS3.out]
          rwa [show s + x1 + 1 + t1 + l1 = s + (x1 + (1 + t1 + l1)) by omega, show x + x2 + z5 + z6 + t2 + l2 = x + (x2 + (z5 + z6 + t2 + l2)) by omega] at this
      · rw [if_neg (by omega)] at hz6
        have q1 : ((k j).h.kd == 1) = false := by simpa using h1
        have q2 : ((k j).h.kd == 2) = false := by simpa using h2
        have T2 : Hid (Tal b (s + x1 + 1) (x + x2 + z5 + z6) w1) := by rw [← hz6]; exact T1.out
        have G2 := G1
        have B2 := B1
        clear h1 h2 c4 c5 c6 c7 c8 c9 c10 T1 G1 B1 hz6
        go_wp2_with fail
        refine (C3.out (s + x1 + 1) (x + x2 + z5 + z6) _ (II.out.ts.below G2.out.1 (Nat.le_refl _)) T2.out (by have := HN.out; have := HS1.out; have := HL.out; omega) (by have := HN.out; have := HS3.out; have := HL.out; omega)).mono ?_
        rintro e w3 ⟨rfl, hT3, hF3⟩
        have hB3 := hF3.s B2.out HNE.out
        have T3 := Lib.hid hT3
        have G3 := Lib.hid (G2.out.trans hF3)
        have S1 := s_cells hB3
        have c14 := S1.c14
        clear hT3 hF3 T2 G2 B2 S1 hB3
        go_wp2_with fail
        refine (C4.out (s + x1 + 1 + t1) (x + x2 + z5 + z6 + t2) _ (II.out.es.below G3.out.1 (Nat.le_refl _)) T3.out (by have := HN.out; have := HS1.out; have := HL.out; omega) (by have := HN.out; have := HS3.out; have := HL.out; omega)).mono ?_
        rintro e w4 ⟨rfl, hT4, hF4⟩
        have T4 := Lib.hid hT4
        have G4 := Lib.hid (G3.out.trans hF4)
        clear hT4 hF4 T3 G3
        go_wp2_with fail
        go_roundg (n - (j + 1))
        case measure => have := HJ.out; omega
        case rel =>
          refine ⟨j + 1, by go_num, ⟨rfl, hlt⟩, ?_, HF.out.trans G4.out⟩
          have := T4.out
          rw [HY1.out, HY2.out, HS1.out, HS3.out]
          rwa [show s + x1 + 1 + t1 + l1 = s + (x1 + (1 + t1 + l1)) by omega, show x + x2 + z5 + z6 + t2 + l2 = x + (x2 + (z5 + z6 + t2 + l2)) by omega] at this
    · obtain rfl : j = n := by have := HJ.out; omega
      clear hlt
      go_wp2_with fail
      go_end0
      exact ⟨rfl, HTj.out, HF.out⟩
theorem tAddS_e (B : Nat) (s : St) : AddSOk B s.h.ts s.t ∧ AddSOk B s.h.es s.l := by
  induction s using St.ind with
  | H s it il => exact ⟨tAddS_of B s.h.ts s.t it, tAddS_of B s.h.es s.l il⟩
theorem tAddS_any (B : Nat) (sl : Sl) (k : Nat → St) : AddSOk B sl k := tAddS_of B sl k fun i _ => tAddS_e B (k i)
end Go.Proofs.YtgjgcehoakacoaaGreatDoor
namespace Go.Proofs.YtgjgcehoakacoaaGreatDoor
open Go.RowKit
set_option maxRecDepth 100000

def tO : Obj := .cells #[.int .i64 0, .int .i64 0] 79 (0, 0)
set_option maxHeartbeats 1600000 in
theorem tCount_any (p : Pr) (B : Nat) (w : World) (hp : p.In B w) (hB : B ≤ w.heap.size) (hn : p.cs ≤ 100000) (hn' : p.ce ≤ 100000) :
    Calls Tryz.prog 14 #[p.v] w fun e w' => e = .returned (.tuple #[.int .i64 (p.cs : Int), .int .i64 (p.ce : Int)]) ∧ Below w.heap.size w w' := by
  have h1 : sm (fun j => (p.i j).cs) p.is.n + sm (fun j => (p.s j).cs) p.ss.n ≤ 100000 := hn
  have h2 : sm (fun j => (p.i j).ce) p.is.n + sm (fun j => (p.s j).ce) p.ss.n ≤ 100000 := hn'
  have HP := Lib.hid hp
  have HB := Lib.hid hB
  have C1 := Lib.hid fun w' hI hT => tAddS_any w.heap.size p.is p.i (w.heap.size + 1) 0 0 w' hI hT (by omega) (by omega) (by omega)
  have C2 := Lib.hid fun w' hI hT => tAddS_any w.heap.size p.ss p.s (w.heap.size + 1) (sm (fun j => (p.i j).cs) p.is.n) (sm (fun j => (p.i j).ce) p.is.n) w' hI hT (by omega) (by omega) (by omega)
  unfold Pr.cs Pr.ce
  generalize sm (fun j => (p.i j).cs) p.is.n = x1 at *
  generalize sm (fun j => (p.i j).ce) p.is.n = x2 at *
  generalize sm (fun j => (p.s j).cs) p.ss.n = x3 at *
  generalize sm (fun j => (p.s j).ce) p.ss.n = x4 at *
  have HN := Lib.hid (And.intro h1 h2)
  clear hp hB hn hn' h1 h2
  have S0 : (bx (bx w (pO p)) tO).heap[w.heap.size]? = some (pO p) := (bx_old _ _ (by rw [bx_size]; omega)).trans (bx_new _ _)
  have T0 : Tal (w.heap.size + 1) 0 0 (bx (bx w (pO p)) tO) := by have := bx_new (bx w (pO p)) tO; rwa [bx_size] at this
  have F0 : Fr w.heap.size (w.heap.size + 1) w (bx (bx w (pO p)) tO) := ((Fr.refl _ (Nat.le_refl _)).bx _).bx _
  obtain ⟨-, -, c2, c3⟩ := p_cells S0
  have hz : (bx w (pO p)).heap.size = w.heap.size + 1 := bx_size _ _
  have S0 := Lib.hid S0
  have T0 := Lib.hid T0
  have F0 := Lib.hid F0
  show Calls Tryz.prog 14 #[.agg #[.int .i64 p.ticks, .slice p.ds.ao p.ds.n p.ds.c, .slice p.is.ao p.is.n p.is.c, .slice p.ss.ao p.ss.n p.ss.c]] w _
  go_enter Tryz.func14, Tryz.ntmps14
  go_upto_region 1 with fail
  rw [bx_p]
  go_upto_region 2 with fail
  rw [show (bx w (pO p)).alloc (.cells #[.int .i64 0, .int .i64 0] 79 (0, 0)) = bx (bx w (pO p)) tO from rfl]
  go_wp2_with fail
  refine (C1.out _ ((HP.out.2.2.1.mono (bel_same F0.out.1 HB.out) HB.out)) T0.out).mono ?_
  rintro e w1 ⟨rfl, hT1, hF1⟩
  rw [Nat.zero_add, Nat.zero_add] at hT1
  have S1 := hF1.p S0.out (by omega)
  obtain ⟨-, -, -, c3⟩ := p_cells S1
  have T1 := Lib.hid hT1
  have F1 := Lib.hid (F0.out.trans hF1)
  clear hT1 hF1 S1 T0 c2 F0 S0
  go_wp2_with fail
  refine (C2.out _ ((HP.out.2.2.2.mono (bel_same F1.out.1 HB.out) HB.out)) T1.out).mono ?_
  rintro e w2 ⟨rfl, hT2, hF2⟩
  have d0 : w2.cell? ⟨w.heap.size + 1, 0, none⟩ = some (.int .i64 ((x1 + x3 : Nat) : Int)) := cell_obj hT2 0
  have d1 : w2.cell? ⟨w.heap.size + 1, 1, none⟩ = some (.int .i64 ((x2 + x4 : Nat) : Int)) := cell_obj hT2 1
  have F2 := Lib.hid (F1.out.trans hF2)
  clear hT2 hF2 T1 F1 c3
  go_upto_region 4 with fail
  go_quiet (fail)
  go_wp2_with fail
  go_ret2
  exact ⟨by simp, bel_drewN F2.out.1 _⟩
end Go.Proofs.YtgjgcehoakacoaaGreatDoor
