/-
  Contracts of layer 3's law helpers of, is and small. Conditions: as the callees'.
-/
import Derived.Test.YtaollppieonmbaaDoorFlow
namespace Go.Proofs.YtaollppieonmbaaDoor
open Go.RowKit
set_option maxRecDepth 100000

set_option maxHeartbeats 4000000 in
theorem ofq_any {w : World} {x y z : Value} {L : Nat} {r : Rat} (h : RV w x y z L r) (hL : L ≤ 1024) (hL1 : 1 ≤ L) : Calls Tryd.prog 11 #[.agg #[x, y, z]] w (RetQ r (32 * L) w) := by
  obtain ⟨s, p, q, rfl, hy, hz, rfl⟩ := h
  go_enter Tryd.func11, Tryd.ntmps11
  go_upto_region 1 with fail
  have HB0 := bel_2 w (.cells #[.bool s, y, z] 25) (.cells #[.bool false, .slice none 0 0, .slice none 0 0] 30)
  have K0 := Blk.in21 (Below.refl ((w.alloc (.cells #[.bool s, y, z] 25)).alloc (.cells #[.bool false, .slice none 0 0, .slice none 0 0] 30)).heap.size _)
  have K1 := Blk.in22 (Below.refl ((w.alloc (.cells #[.bool s, y, z] 25)).alloc (.cells #[.bool false, .slice none 0 0, .slice none 0 0] 30)).heap.size _)
  generalize (w.alloc (.cells #[.bool s, y, z] 25)).alloc (.cells #[.bool false, .slice none 0 0, .slice none 0 0] 30) = W at *
  have HG2 : w.heap.size ≤ w.heap.size + 1 := by omega
  have N1 : w.heap.size ≠ w.heap.size + 1 := by omega
  generalize w.heap.size + 1 = g1 at *
  have y0 := hy.below HB0
  have z0 := hz.below HB0
  have H0 := Lib.hid HB0
  clear hy hz HB0
  go_region_held3 (fun w' => w'.cell? ⟨w.heap.size, 0, none⟩ = some (.bool s) ∧ w'.cell? ⟨w.heap.size, 1, none⟩ = some y ∧ w'.cell? ⟨w.heap.size, 2, none⟩ = some z)
    (first | (refine kp_r (W := W) ?_ K0; (repeat (first | exact Below.refl _ _ | exact X3 | exact X2 | exact X1 | refine bel_drew ?_)); done) | exact kp_r_put X3 K0 N1)
    (first
      | (go_at_call 32; have _ := X1; refine (rbitsV (w := w1) (z0.below X1) (by omega)).mono ?_; rintro e w2 ⟨v, hv, rfl, hb2⟩; have X2 : Below W.heap.size W w2 := bel_trans X1 hb2)
      | (go_at_call 32; refine (rbitsV (w := W.drew) y0.drew (by omega)).mono ?_; rintro e w1 ⟨u, hu, rfl, hb1⟩; have X1 : Below W.heap.size W w1 := bel_trans (bel_drew (Below.refl _ _)) hb1)
      | (go_at_call 23; refine (low_any (w := w2) s (hu.below hb2).v hv.v (by omega) (by omega)).mono ?_; rintro e w3 ⟨x3, y3, z3, hr, rfl, hb3⟩; obtain ⟨s1, A1, n1, k1, B1, m1, l1, rfl, rfl, rfl⟩ := hr.form; have X3 : Below W.heap.size W w3 := bel_trans X2 hb3; obtain ⟨c0, c1, c2, f0, f1, f2⟩ := (K1.below X3 K1.lt).three))
  go_wp2_with fail
  have K4 := K1.below X3 K1.lt
  have K5 := K4.put3 (.bool s1) (.slice A1 n1 k1) (.slice B1 m1 l1)
  have R5 := hr.put3 K4 tQ_ne (.bool s1) (.slice A1 n1 k1) (.slice B1 m1 l1)
  have B5 := Lib.hid (bel_put3 (bel_trans H0.out X3) HG2 (.bool s1) (.slice A1 n1 k1) (.slice B1 m1 l1))
  unfold wput at K5 R5 B5
  clear c0 c1 c2 f0 f1 f2 K4 K0 K1 hr
  obtain ⟨c0, c1, c2, -, -, -⟩ := K5.three
  try simp only [Exit.inBlock, Exit.then]
  exact bodyPost_ret (v := .agg #[.bool s1, .slice A1 n1 k1, .slice B1 m1 l1]) (by simp [results, Tryd.results11, go_sem, c0, c1, c2]) rfl ⟨_, _, _, R5, rfl, B5.out⟩

set_option maxHeartbeats 4000000 in
theorem isq_any {w : World} {x y z x' y' z' : Value} {L M : Nat} {r : Rat} (h : RC w x y z L r) (k : QC w x' y' z' M r) (hL : L ≤ 1048576) (hM : M ≤ 1048576) : Calls Tryd.prog 12 #[.agg #[x, y, z], .agg #[x', y', z']] w fun e w' => e = .returned (.bool true) ∧ Below w.heap.size w w' := by
  obtain ⟨rfl, hy, hz⟩ := h
  obtain ⟨rfl, hy', hz'⟩ := k
  generalize rs r = s at *
  go_enter Tryd.func12, Tryd.ntmps12
  go_wp2_with fail
  refine (isrV (hy.below (bel_2 _ _ _)) (hy'.below (bel_2 _ _ _)).v hL hM).mono ?_
  rintro e w1 ⟨rfl, hb1⟩
  have K0 := Blk.in21 hb1
  have K1 := Blk.in22 hb1
  have H1 := Lib.hid (bel_trans (bel_2 _ _ _) hb1)
  have z1 := hz.below H1.out
  have z2 := hz'.below H1.out
  clear hb1 hy hz hy' hz'
  generalize w.heap.size + 1 = g1 at *
  obtain ⟨a0, a1, a2, -, -, -⟩ := K0.three
  obtain ⟨b0, b1, b2, -, -, -⟩ := K1.three
  go_wp2_with fail
  refine (isrV z1 z2.v hL hM).mono ?_
  rintro e w2 ⟨rfl, hb2⟩
  have H2 := Lib.hid (bel_trans H1.out hb2)
  clear hb2 K0 K1 a0 a1 a2 b0 b1 b2 z1 z2 H1
  go_wp2_with fail
  go_ret
  exact ⟨rfl, H2.out⟩

/-- A fraction as it lies in memory. -/
structure RW where
  s : Bool
  A : Option Addr
  n : Nat
  c : Nat
  B : Option Addr
  m : Nat
  d : Nat
def RW.v (e : RW) : Value × Value × Value := (.bool e.s, .slice e.A e.n e.c, .slice e.B e.m e.d)
/-- Are the fractions short enough? -/
def smallR (es : List RW) : Bool := es.all fun e => decide (e.n ≤ 4) && decide (e.m ≤ 4)
set_option maxHeartbeats 4000000 in
theorem smallR_any (A : Option Addr) (k c : Nat) (es : List RW) (hl : es.length = k) (hk : k ≤ 1000) (w : World) (hr : RdR w A (es.map RW.v)) :
    Calls Tryd.prog 10 #[.slice A k c] w fun e w' => e = .returned (.bool (smallR es)) ∧ w = w' := by
  have HL := Lib.hid hl
  obtain ⟨b, hb⟩ : ∃ b, smallR es = b := ⟨_, rfl⟩
  rw [hb]
  have HB := Lib.hid hb
  clear hl hb
  go_enter Tryd.func10, Tryd.ntmps10
  go_wp2_with fail
  go_loop [3] (fun s3 => ∃ i : Nat, s3 = .int .i64 (i : Int) ∧ i ≤ k ∧ Hid (smallR (es.take i) = true)) (fun s3 => k - (intOf s3).toNat)
  case atStart => exact ⟨0, rfl, Nat.zero_le _, by show _ = _; simp [smallR]⟩
  case round =>
    obtain ⟨i, rfl, hi, H⟩ := hrel
    by_cases hlt : i < k
    · have hlt' : i < es.length := by rw [HL.out]; exact hlt
      have hp : es[i]? = some es[i] := List.getElem?_eq_getElem hlt'
      have hts := List.take_succ_eq_append_getElem hlt'
      have hmem : es[i] ∈ es := List.getElem_mem hlt'
      obtain ⟨g, off, rfl⟩ : ∃ g off, A = some ⟨g, off, none⟩ := by
        rcases hr with h | ⟨g, off, e, _⟩
        · have := congrArg List.length h; simp at this; subst this; simp at hlt'
        · exact ⟨g, off, e⟩
      obtain ⟨-, c1, c2⟩ := hr.at_ (i := i) (v := (es[i]).v) (by rw [List.getElem?_map, hp]; rfl)
      generalize es[i] = e at *
      obtain ⟨s, A, n, c', B, m, d⟩ := e
      simp only [RW.v] at c1 c2
      have hl0 : (0 : Int) ≤ (i : Int) := by omega
      have hl1 : (i : Int) < (k : Int) := by omega
      by_cases hn : n ≤ 4
      · have hd1 : decide ((4 : Int) < (n : Int)) = false := decide_eq_false (by omega)
        by_cases hm : m ≤ 4
        · have H2 : Hid (smallR (es.take (i + 1)) = true) := by
            show _ = _
            rw [hts]
            have := H.out
            unfold smallR at this ⊢
            rw [List.all_append, this]
            simp [hn, hm]
          have hd2 : decide ((4 : Int) < (m : Int)) = false := decide_eq_false (by omega)
          clear hp hts hmem H
          go_wp2_with fail
          go_round
          case rel => exact ⟨i + 1, by go_num, by omega, H2⟩
          case measure => simp [intOf]; omega
        · have F : Hid (false = b) := by
            show _ = _
            rw [← HB.out]
            symm
            unfold smallR
            rw [List.all_eq_false]
            exact ⟨_, hmem, by simp; omega⟩
          have hd2 : decide ((4 : Int) < (m : Int)) = true := decide_eq_true (by omega)
          clear hp hts hmem H
          go_wp2_with fail
          go_ret
          exact ⟨ret_bool F.out, rfl⟩
      · have F : Hid (false = b) := by
          show _ = _
          rw [← HB.out]
          symm
          unfold smallR
          rw [List.all_eq_false]
          exact ⟨_, hmem, by simp; omega⟩
        have hd1 : decide ((4 : Int) < (n : Int)) = true := decide_eq_true (by omega)
        clear hp hts hmem H
        go_wp2_with fail
        go_ret
        exact ⟨ret_bool F.out, rfl⟩
    · have F : Hid (true = b) := by
        show _ = _
        rw [← HB.out]
        have := H.out
        rw [List.take_of_length_le (by rw [HL.out]; omega)] at this
        exact this.symm
      go_wp2_with fail
      go_ret
      exact ⟨ret_bool F.out, rfl⟩
end Go.Proofs.YtaollppieonmbaaDoor
