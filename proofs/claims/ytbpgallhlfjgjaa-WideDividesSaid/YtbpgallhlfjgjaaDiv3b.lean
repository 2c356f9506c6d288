/-
  The contract of U192's Div, for all words: quotient and what is left; by nought they are noughts. Conditions: the fields are words of 64 bits.
-/
import Derived.Test.YtbpgallhlfjgjaaDiv3
namespace Go.Proofs.Ytbpgallhlfjgjaa
open Go.RowKit

theorem Blk.far2 {w : World} {g : Nat} {t : TypeId} {cs : Array Value} (h : Blk w g t cs) {p : Nat} (hp : g ≠ p) (u v : Value) : Blk ((w.setCell ⟨p, 0, none⟩ u).setCell ⟨p, 1, none⟩ v) g t cs := (h.far (p := ⟨p, 0, none⟩) hp u).far (p := ⟨p, 1, none⟩) hp v
theorem Blk.far3 {w : World} {g : Nat} {t : TypeId} {cs : Array Value} (h : Blk w g t cs) {p : Nat} (hp : g ≠ p) (u v x : Value) : Blk (((w.setCell ⟨p, 0, none⟩ u).setCell ⟨p, 1, none⟩ v).setCell ⟨p, 2, none⟩ x) g t cs := (h.far2 hp u v).far (p := ⟨p, 2, none⟩) hp x
theorem Blk.put2 {w : World} {g : Nat} {t : TypeId} {a b : Value} (h : Blk w g t #[a, b]) (u v : Value) : Blk ((w.setCell ⟨g, 0, none⟩ u).setCell ⟨g, 1, none⟩ v) g t #[u, v] := by
  have := (h.set_ 0 u).set_ 1 v
  simpa using this
theorem Blk.put3 {w : World} {g : Nat} {t : TypeId} {a b c : Value} (h : Blk w g t #[a, b, c]) (u v x : Value) : Blk (((w.setCell ⟨g, 0, none⟩ u).setCell ⟨g, 1, none⟩ v).setCell ⟨g, 2, none⟩ x) g t #[u, v, x] := by
  have := ((h.set_ 0 u).set_ 1 v).set_ 2 x
  simpa using this
theorem bel_set2 {w w' : World} (h : Below w.heap.size w w') {p : Nat} (hp : w.heap.size ≤ p) (u v : Value) : Below w.heap.size w ((w'.setCell ⟨p, 0, none⟩ u).setCell ⟨p, 1, none⟩ v) := bel_set (bel_set h hp u) hp v
theorem bel_set3 {w w' : World} (h : Below w.heap.size w w') {p : Nat} (hp : w.heap.size ≤ p) (u v x : Value) : Below w.heap.size w (((w'.setCell ⟨p, 0, none⟩ u).setCell ⟨p, 1, none⟩ v).setCell ⟨p, 2, none⟩ x) := bel_set (bel_set2 h hp u v) hp x

set_option maxRecDepth 100000 in
set_option maxHeartbeats 6400000 in
theorem div3_big (ah am al bh bl : Int) (h1 : Word ah) (h2 : Word am) (h3 : Word al) (h4 : Word bh) (h5 : Word bl) (hb : ¬ bh = 0) (w : World) : Calls Try.prog 36 #[.agg #[.int .u64 ah, .int .u64 am, .int .u64 al], .agg #[.int .u64 bh, .int .u64 bl]] w (Ret (IsDiv3 (V3 ah am al) (V2 bh bl)) w) := by
  have t0 : (bh == 0) = false := by simp [hb]
  have hb' : 0 < bh := by have := h4.1; omega
  have hbp : 0 < V2 bh bl := by have := h5.1; unfold V2; omega
  obtain ⟨s, es, hs, g1, g2⟩ := lz_arith h4 hb'
  obtain ⟨K0, K1, K2, K3⟩ := four_blk w ah am al bh bl
  have ES := Lib.hid es
  clear es
  go_enter Try.func36, Try.ntmps36
  go_wp2_with fail
  refine (lz64 bh h4 s ES.out _).mono ?_
  rintro e w0 ⟨rfl, rfl⟩
  go_wp2_with fail
  refine (shl2 bh bl s h4 h5 (by omega) _).mono ?_
  rw [Int.toNat_natCast]
  rintro e w1 ⟨v, ⟨bh', bl', wb1, wb2, hv, rfl⟩, rfl, hb1⟩
  obtain ⟨eb, lb⟩ := shift_b h5 hs g1 g2 hv
  have EB := Lib.hid eb
  clear hv eb
  have A0 := K0.below hb1 K0.lt
  have A1 := K1.below hb1 K1.lt
  have A2 := K2.below hb1 K2.lt
  have A3 := K3.below hb1 K3.lt
  have D1 := Lib.hid (bel_trans (bel_alloc (bel_alloc (bel_alloc (bel_alloc (Below.refl w.heap.size w) _) _) _) _) hb1)
  clear K0 K1 K2 K3 hb1
  have c0 : w1.cell? ⟨w.heap.size + 1, 0, none⟩ = some (.int .u64 bh) := A1.cell 0
  have c1 : w1.cell? ⟨w.heap.size + 1, 1, none⟩ = some (.int .u64 bl) := A1.cell 1
  have c2 := A1.frozen 0
  have c3 := A1.frozen 1
  have c4 : w1.cell? ⟨w.heap.size, 0, none⟩ = some (.int .u64 ah) := A0.cell 0
  have c5 : w1.cell? ⟨w.heap.size, 1, none⟩ = some (.int .u64 am) := A0.cell 1
  have c6 : w1.cell? ⟨w.heap.size, 2, none⟩ = some (.int .u64 al) := A0.cell 2
  go_wp2_with fail
  refine (shl3 ah am al s h1 h2 h3 (by omega) _).mono ?_
  rw [Int.toNat_natCast]
  rintro e w2 ⟨v, ⟨ah', am', al', wa1, wa2, wa3, hv, rfl⟩, rfl, hb2⟩
  obtain ⟨ea, lt1, wt⟩ := shift_a h1 h2 h3 wa1 hs hv
  have EA := Lib.hid ea
  clear hv ea
  have B0 := (A0.far2 (by omega) (.int .u64 bh') (.int .u64 bl')).below hb2 (A0.far2 (by omega) _ _).lt
  have B1 := (A1.put2 (.int .u64 bh') (.int .u64 bl')).below hb2 (A1.put2 _ _).lt
  have B2 := (A2.far2 (by omega) (.int .u64 bh') (.int .u64 bl')).below hb2 (A2.far2 (by omega) _ _).lt
  have B3 := (A3.far2 (by omega) (.int .u64 bh') (.int .u64 bl')).below hb2 (A3.far2 (by omega) _ _).lt
  have D2 := Lib.hid (bel_trans (bel_set2 D1.out (by omega) (.int .u64 bh') (.int .u64 bl')) hb2)
  clear A0 A1 A2 A3 D1 hb2 c0 c1 c2 c3 c4 c5 c6
  have c0 : w2.cell? ⟨w.heap.size, 0, none⟩ = some (.int .u64 ah) := B0.cell 0
  have c1 : w2.cell? ⟨w.heap.size, 1, none⟩ = some (.int .u64 am) := B0.cell 1
  have c2 : w2.cell? ⟨w.heap.size, 2, none⟩ = some (.int .u64 al) := B0.cell 2
  have c3 := B0.frozen 0
  have c4 := B0.frozen 1
  have c5 := B0.frozen 2
  have c6 : w2.cell? ⟨w.heap.size + 1, 0, none⟩ = some (.int .u64 bh') := B1.cell 0
  have c7 : w2.cell? ⟨w.heap.size + 1, 1, none⟩ = some (.int .u64 bl') := B1.cell 1
  generalize ah / 2 ^ (64 - s) = tp at *
  go_wp2_with fail
  refine (divStep tp ah' am' bh' bl' wt wa1 wa2 wb1 wb2 (by omega) _).mono ?_
  rintro e w3 ⟨v, ⟨mid, r1h, r1l, wmid, wr1, wr2, q1, lt2, rfl⟩, rfl, hb3⟩
  have Q1 := Lib.hid q1
  clear q1
  have C0 := (B0.put3 (.int .u64 ah') (.int .u64 am') (.int .u64 al')).below hb3 (B0.put3 _ _ _).lt
  have C1 := (B1.far3 (by omega) (.int .u64 ah') (.int .u64 am') (.int .u64 al')).below hb3 (B1.far3 (by omega) _ _ _).lt
  have C2 := (B2.far3 (by omega) (.int .u64 ah') (.int .u64 am') (.int .u64 al')).below hb3 (B2.far3 (by omega) _ _ _).lt
  have C3 := (B3.far3 (by omega) (.int .u64 ah') (.int .u64 am') (.int .u64 al')).below hb3 (B3.far3 (by omega) _ _ _).lt
  have D3 := Lib.hid (bel_trans (bel_set3 D2.out (Nat.le_refl _) (.int .u64 ah') (.int .u64 am') (.int .u64 al')) hb3)
  clear B0 B1 B2 B3 D2 hb3 c0 c1 c2 c3 c4 c5 c6 c7
  have c0 : ∀ o, (w3.alloc o).cell? ⟨w.heap.size, 2, none⟩ = some (.int .u64 al') := fun o => (C0.alloc o).cell 2
  have c1 : ∀ o, (w3.alloc o).cell? ⟨w.heap.size + 1, 0, none⟩ = some (.int .u64 bh') := fun o => (C1.alloc o).cell 0
  have c2 : ∀ o, (w3.alloc o).cell? ⟨w.heap.size + 1, 1, none⟩ = some (.int .u64 bl') := fun o => (C1.alloc o).cell 1
  go_wp2_with fail
  refine (divStep r1h r1l al' bh' bl' wr1 wr2 wa3 wb1 wb2 lt2 _).mono ?_
  rintro e w4 ⟨v, ⟨lo, r2h, r2l, wlo, wr3, wr4, q2, lt3, rfl⟩, rfl, hb4⟩
  have Q2 := Lib.hid q2
  clear q2
  have z3 := D3.out.size
  have z4 := C3.lt
  have E2 := C2.next hb4
  have E3 := C3.next hb4
  have E4 := Blk.made hb4
  have D4 := Lib.hid (bel_trans (bel_alloc D3.out _) hb4)
  clear C0 C1 C2 C3 D3 hb4 c0 c1 c2
  have c0 : w4.cell? ⟨w3.heap.size, 0, none⟩ = some (.int .u64 r1h) := E4.cell 0
  have c1 : w4.cell? ⟨w3.heap.size, 1, none⟩ = some (.int .u64 r1l) := E4.cell 1
  have c2 := E4.frozen 0
  have c3 := E4.frozen 1
  go_wp2_with fail
  refine (shr2 r2h r2l s wr3 wr4 (by omega) _).mono ?_
  rw [Int.toNat_natCast]
  rintro e w5 ⟨v, ⟨rh, rl, wr5, wr6, hr, rfl⟩, rfl, hb5⟩
  generalize decide (V2 r2h r2l % 2 ^ s ≠ 0) = lost
  have F2 := (E2.far2 (p := w3.heap.size) (by omega) (.int .u64 r2h) (.int .u64 r2l)).below hb5 (E2.far2 (by omega) _ _).lt
  have F3 := (E3.far2 (p := w3.heap.size) (by omega) (.int .u64 r2h) (.int .u64 r2l)).below hb5 (E3.far2 (by omega) _ _).lt
  have F4 := (E4.put2 (.int .u64 r2h) (.int .u64 r2l)).below hb5 (E4.put2 _ _).lt
  have D5 := Lib.hid (bel_trans (bel_set2 D4.out (p := w3.heap.size) (by omega) (.int .u64 r2h) (.int .u64 r2l)) hb5)
  have fin : IsDiv3 (V3 ah am al) (V2 bh bl) (.tuple #[.agg #[.int .u64 0, .int .u64 mid, .int .u64 lo], .agg #[.int .u64 rh, .int .u64 rl]]) :=
    ⟨0, mid, lo, rh, rl, ⟨by decide, by decide⟩, wmid, wlo, wr5, wr6, fun e => by omega, fun _ => div3_eq EB.out EA.out Q1.out Q2.out lt3 hr, rfl⟩
  clear E2 E3 E4 D4 hb5 c0 c1 c2 c3 hr EB EA Q1 Q2 g1 g2
  have c0 : w5.cell? ⟨w3.heap.size, 0, none⟩ = some (.int .u64 r2h) := F4.cell 0
  have c1 : w5.cell? ⟨w3.heap.size, 1, none⟩ = some (.int .u64 r2l) := F4.cell 1
  have c2 := F4.frozen 0
  have c3 := F4.frozen 1
  go_upto_region 13 with fail
  have G2 := F2.far2 (p := w3.heap.size) (by omega) (.int .u64 rh) (.int .u64 rl)
  have G3 := F3.far2 (p := w3.heap.size) (by omega) (.int .u64 rh) (.int .u64 rl)
  have G4 := F4.put2 (.int .u64 rh) (.int .u64 rl)
  have D6 := Lib.hid (bel_set2 D5.out (p := w3.heap.size) (by omega) (.int .u64 rh) (.int .u64 rl))
  clear c0 c1 c2 c3 F2 F3 F4 D5
  generalize (w5.setCell ⟨w3.heap.size, 0, none⟩ (.int .u64 rh)).setCell ⟨w3.heap.size, 1, none⟩ (.int .u64 rl) = w6 at *
  have d0 : w6.cell? ⟨w3.heap.size, 0, none⟩ = some (.int .u64 rh) := G4.cell 0
  have d1 : w6.cell? ⟨w3.heap.size, 1, none⟩ = some (.int .u64 rl) := G4.cell 1
  have d2 : w6.cell? ⟨w.heap.size + 1 + 1, 0, none⟩ = some (.int .u64 0) := G2.cell 0
  have d3 : w6.cell? ⟨w.heap.size + 1 + 1, 1, none⟩ = some (.int .u64 0) := G2.cell 1
  have d4 : w6.cell? ⟨w.heap.size + 1 + 1, 2, none⟩ = some (.int .u64 0) := G2.cell 2
  have d5 : w6.cell? ⟨w.heap.size + 1 + 1 + 1, 0, none⟩ = some (.int .u64 0) := G3.cell 0
  have d6 : w6.cell? ⟨w.heap.size + 1 + 1 + 1, 1, none⟩ = some (.int .u64 0) := G3.cell 1
  have f0 := G2.frozen 0
  have f1 := G2.frozen 1
  have f2 := G2.frozen 2
  have f3 := G3.frozen 0
  have f4 := G3.frozen 1
  clear G2 G3 G4 ES
  go_region
  all_goals
    go_wp2
    refine bodyPost_ret (by simp [results, Try.results36, go_sem, d2, d3, d4, d5, d6]) rfl ⟨_, fin, rfl, ?_⟩
    exact bel_drew (bel_set2 (bel_set3 D6.out (by omega) _ _ _) (by omega) _ _)

theorem div3 (ah am al bh bl : Int) (h1 : Word ah) (h2 : Word am) (h3 : Word al) (h4 : Word bh) (h5 : Word bl) (w : World) : Calls Try.prog 36 #[.agg #[.int .u64 ah, .int .u64 am, .int .u64 al], .agg #[.int .u64 bh, .int .u64 bl]] w (Ret (IsDiv3 (V3 ah am al) (V2 bh bl)) w) := by
  by_cases hh : bh = 0
  · subst hh
    by_cases hl : bl = 0
    · subst hl
      exact div3_zero ah am al w
    · exact div3_word ah am al bl h1 h2 h3 h5 hl w
  · exact div3_big ah am al bh bl h1 h2 h3 h4 h5 hh w
end Go.Proofs.Ytbpgallhlfjgjaa
