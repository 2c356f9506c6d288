/-
  What is known of fractions that are handed in, and of slices of them that a call builds. No function of the program.
-/
import Derived.Test.YtaollppieonmbaaDoorQworks3
namespace Go.Proofs.YtaollppieonmbaaDoor
open Go.RowKit
set_option maxRecDepth 100000

/-- A slice of words that is handed in. -/
def NatIn (w : World) (A : Option Addr) (n c : Nat) : Prop := ∃ us : List Int, us.length = n ∧ n ≤ c ∧ Rn w A us ∧ AllW us
theorem NatIn.v {w : World} {A : Option Addr} {n c L : Nat} (h : NatIn w A n c) (hn : n ≤ L) : ∃ p, NatV w (.slice A n c) p L := by
  obtain ⟨us, h1, h2, h3, h4⟩ := h
  exact ⟨_, A, n, c, us, rfl, h1, h2, h3, h4, rfl, hn⟩
theorem in_rv {w : World} {A B : Option Addr} {n c m d L : Nat} (s : Bool) (h : NatIn w A n c) (k : NatIn w B m d) (hn : n ≤ L) (hm : m ≤ L) : ∃ r, RV w (.bool s) (.slice A n c) (.slice B m d) L r := by
  obtain ⟨p, hp⟩ := h.v hn
  obtain ⟨q, hq⟩ := k.v hm
  exact ⟨_, s, p, q, rfl, hp, hq, rfl⟩
theorem rdr_n2 (W : World) (t : TypeId) (e f : RW) : RdR (W.alloc (.cells #[.bool e.s, .slice e.A e.n e.c, .slice e.B e.m e.d, .bool f.s, .slice f.A f.n f.c, .slice f.B f.m f.d] t)) (some ⟨W.heap.size, 0, none⟩) ([e, f].map RW.v) := by
  refine .inr ⟨_, 0, rfl, by simp, fun j v hj => ?_⟩
  rcases j with _ | _ | j
  · simp at hj; subst hj; simp [go_sem, RW.v]
  · simp at hj; subst hj; simp [go_sem, RW.v]
  · simp at hj
theorem rdr_n3 (W : World) (t : TypeId) (e f g : RW) : RdR (W.alloc (.cells #[.bool e.s, .slice e.A e.n e.c, .slice e.B e.m e.d, .bool f.s, .slice f.A f.n f.c, .slice f.B f.m f.d, .bool g.s, .slice g.A g.n g.c, .slice g.B g.m g.d] t)) (some ⟨W.heap.size, 0, none⟩) ([e, f, g].map RW.v) := by
  refine .inr ⟨_, 0, rfl, by simp, fun j v hj => ?_⟩
  rcases j with _ | _ | _ | j
  · simp at hj; subst hj; simp [go_sem, RW.v]
  · simp at hj; subst hj; simp [go_sem, RW.v]
  · simp at hj; subst hj; simp [go_sem, RW.v]
  · simp at hj
theorem small2 (e f : RW) : smallR [e, f] = decide (e.n ≤ 4 ∧ e.m ≤ 4 ∧ f.n ≤ 4 ∧ f.m ≤ 4) := by
  rw [Bool.eq_iff_iff]
  simp [smallR]
  omega
theorem small3 (e f g : RW) : smallR [e, f, g] = decide (e.n ≤ 4 ∧ e.m ≤ 4 ∧ f.n ≤ 4 ∧ f.m ≤ 4 ∧ g.n ≤ 4 ∧ g.m ≤ 4) := by
  rw [Bool.eq_iff_iff]
  simp [smallR]
  omega
theorem kps3 {W w1 : World} {p0 p1 p2 : Addr} {a0 a1 a2 : Value} (hb : Below W.heap.size W w1) (h0 : W.cell? p0 = some a0) (h1 : W.cell? p1 = some a1) (h2 : W.cell? p2 = some a2) :
    w1.cell? p0 = some a0 ∧ w1.cell? p1 = some a1 ∧ w1.cell? p2 = some a2 :=
  ⟨kp_c hb h0, kp_c hb h1, kp_c hb h2⟩
theorem kps6 {W w1 : World} {p0 p1 p2 p3 p4 p5 : Addr} {a0 a1 a2 a3 a4 a5 : Value} (hb : Below W.heap.size W w1) (h0 : W.cell? p0 = some a0) (h1 : W.cell? p1 = some a1) (h2 : W.cell? p2 = some a2) (h3 : W.cell? p3 = some a3) (h4 : W.cell? p4 = some a4) (h5 : W.cell? p5 = some a5) :
    w1.cell? p0 = some a0 ∧ w1.cell? p1 = some a1 ∧ w1.cell? p2 = some a2 ∧ w1.cell? p3 = some a3 ∧ w1.cell? p4 = some a4 ∧ w1.cell? p5 = some a5 :=
  ⟨kp_c hb h0, kp_c hb h1, kp_c hb h2, kp_c hb h3, kp_c hb h4, kp_c hb h5⟩
theorem kps9 {W w1 : World} {p0 p1 p2 p3 p4 p5 p6 p7 p8 : Addr} {a0 a1 a2 a3 a4 a5 a6 a7 a8 : Value} (hb : Below W.heap.size W w1) (h0 : W.cell? p0 = some a0) (h1 : W.cell? p1 = some a1) (h2 : W.cell? p2 = some a2) (h3 : W.cell? p3 = some a3) (h4 : W.cell? p4 = some a4) (h5 : W.cell? p5 = some a5) (h6 : W.cell? p6 = some a6) (h7 : W.cell? p7 = some a7) (h8 : W.cell? p8 = some a8) :
    w1.cell? p0 = some a0 ∧ w1.cell? p1 = some a1 ∧ w1.cell? p2 = some a2 ∧ w1.cell? p3 = some a3 ∧ w1.cell? p4 = some a4 ∧ w1.cell? p5 = some a5 ∧ w1.cell? p6 = some a6 ∧ w1.cell? p7 = some a7 ∧ w1.cell? p8 = some a8 :=
  ⟨kp_c hb h0, kp_c hb h1, kp_c hb h2, kp_c hb h3, kp_c hb h4, kp_c hb h5, kp_c hb h6, kp_c hb h7, kp_c hb h8⟩
theorem kps12 {W w1 : World} {p0 p1 p2 p3 p4 p5 p6 p7 p8 p9 p10 p11 : Addr} {a0 a1 a2 a3 a4 a5 a6 a7 a8 a9 a10 a11 : Value} (hb : Below W.heap.size W w1) (h0 : W.cell? p0 = some a0) (h1 : W.cell? p1 = some a1) (h2 : W.cell? p2 = some a2) (h3 : W.cell? p3 = some a3) (h4 : W.cell? p4 = some a4) (h5 : W.cell? p5 = some a5) (h6 : W.cell? p6 = some a6) (h7 : W.cell? p7 = some a7) (h8 : W.cell? p8 = some a8) (h9 : W.cell? p9 = some a9) (h10 : W.cell? p10 = some a10) (h11 : W.cell? p11 = some a11) :
    w1.cell? p0 = some a0 ∧ w1.cell? p1 = some a1 ∧ w1.cell? p2 = some a2 ∧ w1.cell? p3 = some a3 ∧ w1.cell? p4 = some a4 ∧ w1.cell? p5 = some a5 ∧ w1.cell? p6 = some a6 ∧ w1.cell? p7 = some a7 ∧ w1.cell? p8 = some a8 ∧ w1.cell? p9 = some a9 ∧ w1.cell? p10 = some a10 ∧ w1.cell? p11 = some a11 :=
  ⟨kp_c hb h0, kp_c hb h1, kp_c hb h2, kp_c hb h3, kp_c hb h4, kp_c hb h5, kp_c hb h6, kp_c hb h7, kp_c hb h8, kp_c hb h9, kp_c hb h10, kp_c hb h11⟩
theorem kps15 {W w1 : World} {p0 p1 p2 p3 p4 p5 p6 p7 p8 p9 p10 p11 p12 p13 p14 : Addr} {a0 a1 a2 a3 a4 a5 a6 a7 a8 a9 a10 a11 a12 a13 a14 : Value} (hb : Below W.heap.size W w1) (h0 : W.cell? p0 = some a0) (h1 : W.cell? p1 = some a1) (h2 : W.cell? p2 = some a2) (h3 : W.cell? p3 = some a3) (h4 : W.cell? p4 = some a4) (h5 : W.cell? p5 = some a5) (h6 : W.cell? p6 = some a6) (h7 : W.cell? p7 = some a7) (h8 : W.cell? p8 = some a8) (h9 : W.cell? p9 = some a9) (h10 : W.cell? p10 = some a10) (h11 : W.cell? p11 = some a11) (h12 : W.cell? p12 = some a12) (h13 : W.cell? p13 = some a13) (h14 : W.cell? p14 = some a14) :
    w1.cell? p0 = some a0 ∧ w1.cell? p1 = some a1 ∧ w1.cell? p2 = some a2 ∧ w1.cell? p3 = some a3 ∧ w1.cell? p4 = some a4 ∧ w1.cell? p5 = some a5 ∧ w1.cell? p6 = some a6 ∧ w1.cell? p7 = some a7 ∧ w1.cell? p8 = some a8 ∧ w1.cell? p9 = some a9 ∧ w1.cell? p10 = some a10 ∧ w1.cell? p11 = some a11 ∧ w1.cell? p12 = some a12 ∧ w1.cell? p13 = some a13 ∧ w1.cell? p14 = some a14 :=
  ⟨kp_c hb h0, kp_c hb h1, kp_c hb h2, kp_c hb h3, kp_c hb h4, kp_c hb h5, kp_c hb h6, kp_c hb h7, kp_c hb h8, kp_c hb h9, kp_c hb h10, kp_c hb h11, kp_c hb h12, kp_c hb h13, kp_c hb h14⟩
end Go.Proofs.YtaollppieonmbaaDoor
