/-
  What is known of fractions that are handed in, what stays in cells, and what pattern.Value answers of any float. Conditions: as the callees'.
-/
import Derived.Test.YtgjgcehoakacoaaGreatDoorMRc
import Derived.Test.YtgjgcehoakacoaaGreatDoorMPb
import Derived.Test.YtgjgcehoakacoaaGreatDoorPlan
namespace Go.Proofs.YtgjgcehoakacoaaGreatDoor
open Go.RowKit
set_option maxRecDepth 100000

/-- A slice of words that is handed in. -/
def NatIn (w : World) (A : Option Addr) (n c : Nat) : Prop := ∃ us : List Int, us.length = n ∧ n ≤ c ∧ Rn w A us ∧ AllW us
theorem NatIn.v {w : World} {A : Option Addr} {n c L : Nat} (h : NatIn w A n c) (hn : n ≤ L) : ∃ p, NatV w (.slice A n c) p L := by
  obtain ⟨us, h1, h2, h3, h4⟩ := h
  exact ⟨_, A, n, c, us, rfl, h1, h2, h3, h4, rfl, hn⟩
theorem in_rv {w : World} {A B : Option Addr} {n c m d L : Nat} (s : Bool) (h : NatIn w A n c) (k : NatIn w B m d) (hn : n ≤ L) (hm : m ≤ L) : ∃ r, RV w (.bool s) (.slice A n c) (.slice B m d) L r := by
  obtain ⟨p, hp⟩ := h.v hn
  obtain ⟨q, hq⟩ := k.v hm
  exact ⟨_, s, p, q, rfl, hp, hq, rfl⟩
theorem kps3 {W w1 : World} {p0 p1 p2 : Addr} {a0 a1 a2 : Value} (hb : Below W.heap.size W w1) (h0 : W.cell? p0 = some a0) (h1 : W.cell? p1 = some a1) (h2 : W.cell? p2 = some a2) :
    w1.cell? p0 = some a0 ∧ w1.cell? p1 = some a1 ∧ w1.cell? p2 = some a2 :=
  ⟨kp_c hb h0, kp_c hb h1, kp_c hb h2⟩
theorem kps6 {W w1 : World} {p0 p1 p2 p3 p4 p5 : Addr} {a0 a1 a2 a3 a4 a5 : Value} (hb : Below W.heap.size W w1) (h0 : W.cell? p0 = some a0) (h1 : W.cell? p1 = some a1) (h2 : W.cell? p2 = some a2) (h3 : W.cell? p3 = some a3) (h4 : W.cell? p4 = some a4) (h5 : W.cell? p5 = some a5) :
    w1.cell? p0 = some a0 ∧ w1.cell? p1 = some a1 ∧ w1.cell? p2 = some a2 ∧ w1.cell? p3 = some a3 ∧ w1.cell? p4 = some a4 ∧ w1.cell? p5 = some a5 :=
  ⟨kp_c hb h0, kp_c hb h1, kp_c hb h2, kp_c hb h3, kp_c hb h4, kp_c hb h5⟩
theorem kps9 {W w1 : World} {p0 p1 p2 p3 p4 p5 p6 p7 p8 : Addr} {a0 a1 a2 a3 a4 a5 a6 a7 a8 : Value} (hb : Below W.heap.size W w1) (h0 : W.cell? p0 = some a0) (h1 : W.cell? p1 = some a1) (h2 : W.cell? p2 = some a2) (h3 : W.cell? p3 = some a3) (h4 : W.cell? p4 = some a4) (h5 : W.cell? p5 = some a5) (h6 : W.cell? p6 = some a6) (h7 : W.cell? p7 = some a7) (h8 : W.cell? p8 = some a8) :
    w1.cell? p0 = some a0 ∧ w1.cell? p1 = some a1 ∧ w1.cell? p2 = some a2 ∧ w1.cell? p3 = some a3 ∧ w1.cell? p4 = some a4 ∧ w1.cell? p5 = some a5 ∧ w1.cell? p6 = some a6 ∧ w1.cell? p7 = some a7 ∧ w1.cell? p8 = some a8 :=
  ⟨kp_c hb h0, kp_c hb h1, kp_c hb h2, kp_c hb h3, kp_c hb h4, kp_c hb h5, kp_c hb h6, kp_c hb h7, kp_c hb h8⟩
/-- What Value answers, of any float. -/
def RetVal (f : Int) (b : Bool) (w : World) (e : Ending) (w' : World) : Prop := ∃ s A n c B m d, e = .returned (.tuple #[.agg #[.bool s, .slice A n c, .slice B m d], .bool b]) ∧ (b = true → RC w' (.bool s) (.slice A n c) (.slice B m d) 258 (fV f)) ∧ Below w.heap.size w w'
end Go.Proofs.YtgjgcehoakacoaaGreatDoor
