/-
  The examples of layer 9's law, and how tokens in a row are read. Conditions: the listed tables stand.
-/
import Derived.Test.YtkhddadhkkffnaaGreatDoorLxj
namespace Go.Proofs.YtkhddadhkkffnaaGreatDoor
open Go.RowKit Go.Maps
set_option maxRecDepth 100000

theorem tk_eq {a b : Tk} (h : a.kd = b.kd ∧ a.ps = b.ps ∧ a.tx = b.tx ∧ a.nn = b.nn ∧ a.ff = b.ff) : a = b := by
  obtain ⟨a1, a2, a3, a4, a5⟩ := a
  obtain ⟨b1, b2, b3, b4, b5⟩ := b
  obtain ⟨h1, h2, h3, h4, h5⟩ := h
  dsimp only at h1 h2 h3 h4 h5
  rw [h1, h2, h3, h4, h5]
instance tkDec : DecidableEq Tk := fun a b =>
  if h : a.kd = b.kd ∧ a.ps = b.ps ∧ a.tx = b.tx ∧ a.nn = b.nn ∧ a.ff = b.ff then .isTrue (tk_eq h) else .isFalse fun e => h (by subst e; exact ⟨rfl, rfl, rfl, rfl, rfl⟩)
/-- The cells of tokens lie in block g. -/
def TkR (w : World) (g : Nat) (ts : List Tk) : Prop := g < w.heap.size ∧ ∀ (j : Nat) (u : Value), (tksC ts)[j]? = some u → w.cell? ⟨g, j, none⟩ = some u
theorem TkR.below {w w' : World} {g B : Nat} {ts : List Tk} (h : TkR w g ts) (hb : Below B w w') (hg : g < B) : TkR w' g ts :=
  ⟨Nat.lt_of_lt_of_le h.1 hb.size, fun j u hj => (hb.cell (p := ⟨g, j, none⟩) hg).trans (h.2 j u hj)⟩
theorem own_five {w : World} {B : Nat} {v : Value} {ts : List Tk} (h : w.ownsRow B 34 5 v ts.length (tksC ts)) (hn : ts ≠ []) :
    ∃ g c, v = .slice (some ⟨g, 0, none⟩) ts.length c ∧ ts.length ≤ c ∧ c ≤ maxLen ∧ B ≤ g ∧ TkR w g ts := by
  rcases h.2 with ⟨-, h0⟩ | ⟨g, cap, cur, e, hB, hh, hc, hm, hs, ht⟩
  · exact absurd (List.eq_nil_of_length_eq_zero h0) hn
  · refine ⟨g, cap, e, hc, hm, hB, (Array.getElem?_eq_some_iff.1 hh).1, fun j u hj => ?_⟩
    rw [cell_of_row w g j cur 34 (0, 0) hh, ← Array.getElem?_toList]
    rw [← ht, List.getElem?_take] at hj
    split at hj
    · exact hj
    · cases hj
theorem lex_ex1 : lexV [120, 61, 49, 46, 46, 51, 59] = ([⟨1, 0, [120], 0, 0⟩, ⟨5, 1, [61], 0, 0⟩, ⟨2, 2, [], 1, 0⟩, ⟨5, 3, [46, 46], 0, 0⟩, ⟨2, 5, [], 3, 0⟩, ⟨5, 6, [59], 0, 0⟩, ⟨0, 7, [], 0, 0⟩], 0, 0) := by decide +kernel
theorem lex_ex2 : lexV [49, 46, 53, 101, 51] = ([⟨3, 0, [], 0, 4654311885213007872⟩, ⟨0, 5, [], 0, 0⟩], 0, 0) := by decide +kernel
theorem lex_ex3 : lexV [49, 46, 101] = ([], 90, 1) := by decide +kernel
theorem lex_ex4 : lexV [97, 47, 47, 98] = ([⟨1, 0, [97], 0, 0⟩, ⟨0, 4, [], 0, 0⟩], 0, 0) := by decide +kernel
set_option maxHeartbeats 3200000 in
theorem works9 (w : World) (hE : Env9 w) : Calls Tryz.prog 6 #[] w fun e w' => e = .returned (.bool true) ∧ Below w.heap.size w w' := by
  have A1 := Lib.hid fun w hE => xLex_any ⟨#[120, 61, 49, 46, 46, 51, 59]⟩ w hE
  have A2 := Lib.hid fun w hE => xLex_any ⟨#[49, 46, 53, 101, 51]⟩ w hE
  have A3 := Lib.hid fun w hE => xLex_any ⟨#[49, 46, 101]⟩ w hE
  have A4 := Lib.hid fun w hE => xLex_any ⟨#[97, 47, 47, 98]⟩ w hE
  have W1 := Lib.hid fun w hE => xIsWord_any ⟨#[115, 116, 101, 112]⟩ w (by decide) hE
  have N1 := Lib.hid fun w hE => xIsName_any ⟨#[115, 116, 101, 112]⟩ w (by decide) hE
  have N2 := Lib.hid fun w hE => xIsName_any ⟨#[115, 116, 101, 112, 115]⟩ w (by decide) hE
  change Hid (∀ w, Env9 w → Calls Tryz.prog 12 #[.string ⟨#[115, 116, 101, 112]⟩] w fun e w' => e = .returned (.bool (kwS.contains [115, 116, 101, 112])) ∧ Below w.heap.size w w') at W1
  change Hid (∀ w, Env9 w → Calls Tryz.prog 14 #[.string ⟨#[115, 116, 101, 112]⟩] w fun e w' => e = .returned (.bool (isnV [115, 116, 101, 112])) ∧ Below w.heap.size w w') at N1
  change Hid (∀ w, Env9 w → Calls Tryz.prog 14 #[.string ⟨#[115, 116, 101, 112, 115]⟩] w fun e w' => e = .returned (.bool (isnV [115, 116, 101, 112, 115])) ∧ Below w.heap.size w w') at N2
  rw [show kwS.contains [115, 116, 101, 112] = true by decide +kernel] at W1
  rw [show isnV [115, 116, 101, 112] = false by decide +kernel] at N1
  rw [show isnV [115, 116, 101, 112, 115] = true by decide +kernel] at N2
  have HE := Lib.hid hE
  clear hE
  go_enter Tryz.func6, Tryz.ntmps6
  go_wp2_with fail
  refine (A1.out _ HE.out).mono ?_
  rintro e w1 ⟨v1, rfl, o1, b1⟩
  rw [lex_ex1] at o1 ⊢
  obtain ⟨g1, c1, rfl, cl1, cm1, cb1, T1⟩ := own_five o1 (by simp)
  have B1 := Lib.hid b1
  clear b1 o1 A1
  dsimp only [List.length_cons, List.length_nil]
  go_wp2_with fail
  refine (A2.out _ (HE.out.below B1.out)).mono ?_
  rintro e w2 ⟨v2, rfl, o2, b2⟩
  rw [lex_ex2] at o2 ⊢
  obtain ⟨g2, c2, rfl, cl2, cm2, cb2, T2⟩ := own_five o2 (by simp)
  replace T1 := T1.below b2 T1.1
  have B2 := Lib.hid (bel_trans B1.out b2)
  clear b2 o2 A2 B1
  dsimp only [List.length_cons, List.length_nil]
  go_wp2_with fail
  refine (A3.out _ (HE.out.below B2.out)).mono ?_
  rintro e w3 ⟨v3, rfl, o3, b3⟩
  rw [lex_ex3] at o3 ⊢
  replace T1 := T1.below b3 T1.1
  replace T2 := T2.below b3 T2.1
  have B3 := Lib.hid (bel_trans B2.out b3)
  clear b3 o3 A3 B2
  dsimp only
  go_wp2_with fail
  refine (A4.out _ (HE.out.below B3.out)).mono ?_
  rintro e w4 ⟨v4, rfl, o4, b4⟩
  rw [lex_ex4] at o4 ⊢
  obtain ⟨g4, c4, rfl, cl4, cm4, cb4, T4⟩ := own_five o4 (by simp)
  replace T1 := T1.below b4 T1.1
  replace T2 := T2.below b4 T2.1
  have B4 := Lib.hid (bel_trans B3.out b4)
  clear b4 o4 A4 B3
  dsimp only [List.length_cons, List.length_nil]
  have q1 : w4.cell? ⟨g1, 0, none⟩ = some (.int .u8 1) := T1.2 0 _ rfl
  have q2 : w4.cell? ⟨g1, 2, none⟩ = some (.string ⟨#[120]⟩) := T1.2 2 _ rfl
  have q3 : w4.cell? ⟨g1, 17, none⟩ = some (.string ⟨#[46, 46]⟩) := T1.2 17 _ rfl
  have q4 : w4.cell? ⟨g1, 23, none⟩ = some (.int .i32 3) := T1.2 23 _ rfl
  have q5 : w4.cell? ⟨g1, 30, none⟩ = some (.int .u8 0) := T1.2 30 _ rfl
  have q6 : w4.cell? ⟨g1, 31, none⟩ = some (.int .i64 7) := T1.2 31 _ rfl
  have q7 : w4.cell? ⟨g2, 4, none⟩ = some (.int .u64 4654311885213007872) := T2.2 4 _ rfl
  have q8 : w4.cell? ⟨g4, 6, none⟩ = some (.int .i64 4) := T4.2 6 _ rfl
  clear T1 T2 T4 cl1 cm1 cb1 cl2 cm2 cb2 cl4 cm4 cb4
  go_wp2_with fail
  refine (W1.out _ (HE.out.below B4.out)).mono ?_
  rintro e w5 ⟨rfl, b5⟩
  have B5 := Lib.hid (bel_trans B4.out b5)
  clear b5 B4 q1 q2 q3 q4 q5 q6 q7 q8 W1
  go_wp2_with fail
  refine (N1.out _ (HE.out.below B5.out)).mono ?_
  rintro e w6 ⟨rfl, b6⟩
  have B6 := Lib.hid (bel_trans B5.out b6)
  clear b6 B5 N1
  go_wp2_with fail
  refine (N2.out _ (HE.out.below B6.out)).mono ?_
  rintro e w7 ⟨rfl, b7⟩
  have B7 := Lib.hid (bel_trans B6.out b7)
  clear b7 B6 N2
  go_wp2_with fail
  go_ret
  exact ⟨rfl, B7.out⟩
end Go.Proofs.YtkhddadhkkffnaaGreatDoor
