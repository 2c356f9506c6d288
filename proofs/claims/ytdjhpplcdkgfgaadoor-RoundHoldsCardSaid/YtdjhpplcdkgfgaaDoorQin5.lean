/-
  What is known of fractions that are handed in, and the contract of layer 5's law helper of. Conditions: as the callees'.
-/
import Derived.Test.YtdjhpplcdkgfgaaDoorQworks5
import Derived.Test.YtdjhpplcdkgfgaaDoorPlan
namespace Go.Proofs.YtdjhpplcdkgfgaaDoor
open Go.RowKit
set_option maxRecDepth 100000

/-- A slice of words that is handed in. -/
def NatIn (w : World) (A : Option Addr) (n c : Nat) : Prop := ∃ us : List Int, us.length = n ∧ n ≤ c ∧ Rn w A us ∧ AllW us
theorem NatIn.v {w : World} {A : Option Addr} {n c L : Nat} (h : NatIn w A n c) (hn : n ≤ L) : ∃ p, NatV w (.slice A n c) p L := by
  obtain ⟨us, h1, h2, h3, h4⟩ := h
  exact ⟨_, A, n, c, us, rfl, h1, h2, h3, h4, rfl, hn⟩
theorem in_rv {w : World} {A B : Option Addr} {n c m d L : Nat} (s : Bool) (h : NatIn w A n c) (k : NatIn w B m d) (hn : n ≤ L) (hm : m ≤ L) : ∃ r, RV w (.bool s) (.slice A n c) (.slice B m d) L r := by
  obtain ⟨p, hp⟩ := h.v hn
  obtain ⟨q, hq⟩ := k.v hm
  exact ⟨_, s, p, q, rfl, hp, hq, rfl⟩
theorem kps3 {W w1 : World} {p0 p1 p2 : Addr} {a0 a1 a2 : Value} (hb : Below W.heap.size W w1) (h0 : W.cell? p0 = some a0) (h1 : W.cell? p1 = some a1) (h2 : W.cell? p2 = some a2) :
    w1.cell? p0 = some a0 ∧ w1.cell? p1 = some a1 ∧ w1.cell? p2 = some a2 :=
  ⟨kp_c hb h0, kp_c hb h1, kp_c hb h2⟩
theorem kps6 {W w1 : World} {p0 p1 p2 p3 p4 p5 : Addr} {a0 a1 a2 a3 a4 a5 : Value} (hb : Below W.heap.size W w1) (h0 : W.cell? p0 = some a0) (h1 : W.cell? p1 = some a1) (h2 : W.cell? p2 = some a2) (h3 : W.cell? p3 = some a3) (h4 : W.cell? p4 = some a4) (h5 : W.cell? p5 = some a5) :
    w1.cell? p0 = some a0 ∧ w1.cell? p1 = some a1 ∧ w1.cell? p2 = some a2 ∧ w1.cell? p3 = some a3 ∧ w1.cell? p4 = some a4 ∧ w1.cell? p5 = some a5 :=
  ⟨kp_c hb h0, kp_c hb h1, kp_c hb h2, kp_c hb h3, kp_c hb h4, kp_c hb h5⟩
set_option maxHeartbeats 4000000 in
theorem ofq5_any {w : World} {x y z : Value} {L : Nat} {r : Rat} (h : RV w x y z L r) (hL : L ≤ 1024) (hL1 : 1 ≤ L) : Calls Tryd.prog 15 #[.agg #[x, y, z]] w (RetQ r (32 * L) w) := by
  obtain ⟨s, p, q, rfl, hy, hz, rfl⟩ := h
  go_enter Tryd.func15, Tryd.ntmps15
  go_upto_region 1 with fail
  have HB0 := bel_2 w (.cells #[.bool s, y, z] 39) (.cells #[.bool false, .slice none 0 0, .slice none 0 0] 43)
  have K0 := Blk.in21 (Below.refl ((w.alloc (.cells #[.bool s, y, z] 39)).alloc (.cells #[.bool false, .slice none 0 0, .slice none 0 0] 43)).heap.size _)
  have K1 := Blk.in22 (Below.refl ((w.alloc (.cells #[.bool s, y, z] 39)).alloc (.cells #[.bool false, .slice none 0 0, .slice none 0 0] 43)).heap.size _)
  generalize (w.alloc (.cells #[.bool s, y, z] 39)).alloc (.cells #[.bool false, .slice none 0 0, .slice none 0 0] 43) = W at *
  have HG2 : w.heap.size ≤ w.heap.size + 1 := by omega
  have N1 : w.heap.size ≠ w.heap.size + 1 := by omega
  generalize w.heap.size + 1 = g1 at *
  have y0 := hy.below HB0
  have z0 := hz.below HB0
  have H0 := Lib.hid HB0
  clear hy hz HB0
  go_region_held3 (fun w' => w'.cell? ⟨w.heap.size, 0, none⟩ = some (.bool s) ∧ w'.cell? ⟨w.heap.size, 1, none⟩ = some y ∧ w'.cell? ⟨w.heap.size, 2, none⟩ = some z)
    (first | (refine kp_r (W := W) ?_ K0; (repeat (first | exact Below.refl _ _ | exact X3 | exact X2 | exact X1 | refine bel_drew ?_)); done) | exact kp_r_put X3 K0 N1)
    (first
      | (go_at_call 45; have _ := X1; refine (rbitsV (w := w1) (z0.below X1) (by omega)).mono ?_; rintro e w2 ⟨v, hv, rfl, hb2⟩; have X2 : Below W.heap.size W w2 := bel_trans X1 hb2)
      | (go_at_call 45; refine (rbitsV (w := W.drew) y0.drew (by omega)).mono ?_; rintro e w1 ⟨u, hu, rfl, hb1⟩; have X1 : Below W.heap.size W w1 := bel_trans (bel_drew (Below.refl _ _)) hb1)
      | (go_at_call 44; refine (low_any (w := w2) s (hu.below hb2).v hv.v (by omega) (by omega)).mono ?_; rintro e w3 ⟨x3, y3, z3, hr, rfl, hb3⟩; obtain ⟨s1, A1, n1, k1, B1, m1, l1, rfl, rfl, rfl⟩ := hr.form; have X3 : Below W.heap.size W w3 := bel_trans X2 hb3; obtain ⟨c0, c1, c2, f0, f1, f2⟩ := (K1.below X3 K1.lt).three))
  go_wp2_with fail
  have K4 := K1.below X3 K1.lt
  have K5 := K4.put3 (.bool s1) (.slice A1 n1 k1) (.slice B1 m1 l1)
  have R5 := hr.put3 K4 tQ_ne (.bool s1) (.slice A1 n1 k1) (.slice B1 m1 l1)
  have B5 := Lib.hid (bel_put3 (bel_trans H0.out X3) HG2 (.bool s1) (.slice A1 n1 k1) (.slice B1 m1 l1))
  unfold wput at K5 R5 B5
  clear c0 c1 c2 f0 f1 f2 K4 K0 K1 hr
  obtain ⟨c0, c1, c2, -, -, -⟩ := K5.three
  try simp only [Exit.inBlock, Exit.then]
  exact bodyPost_ret (v := .agg #[.bool s1, .slice A1 n1 k1, .slice B1 m1 l1]) (by simp [results, Tryd.results15, go_sem, c0, c1, c2]) rfl ⟨_, _, _, R5, rfl, B5.out⟩
end Go.Proofs.YtdjhpplcdkgfgaaDoor
