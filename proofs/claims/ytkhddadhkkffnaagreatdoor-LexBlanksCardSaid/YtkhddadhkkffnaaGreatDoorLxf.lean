/-
  Contracts of lex's tokens: words and floats. Conditions: the listed tables stand; texts of at most 1048576 bytes.
-/
import Derived.Test.YtkhddadhkkffnaaGreatDoorLxe
namespace Go.Proofs.YtkhddadhkkffnaaGreatDoor
open Go.RowKit Go.Maps
set_option maxRecDepth 100000

/-- A struct's five cells are written. -/
def wput5 (w : World) (g : Nat) (a b c d e : Value) : World := ((((w.setCell ⟨g, 0, none⟩ a).setCell ⟨g, 1, none⟩ b).setCell ⟨g, 2, none⟩ c).setCell ⟨g, 3, none⟩ d).setCell ⟨g, 4, none⟩ e
section
variable {w w' : World} {g : Nat} {t : TypeId}
theorem Blk.put5 {x y z u v : Value} (k : Blk w g t #[x, y, z, u, v]) (a b c d e : Value) : Blk (wput5 w g a b c d e) g t #[a, b, c, d, e] := by
  have := ((((k.set_ 0 a).set_ 1 b).set_ 2 c).set_ 3 d).set_ 4 e
  simpa [wput5] using this
theorem Blk.put5_far {cs : Array Value} {g' : Nat} {t' : TypeId} (k : Blk w g' t' cs) (hg : g' ≠ g) (a b c d e : Value) : Blk (wput5 w g a b c d e) g' t' cs :=
  ((((k.far hg a).far hg b).far hg c).far hg d).far hg e
theorem bel_put5 {B : Nat} (h : Below B w w') (hg : B ≤ g) (a b c d e : Value) : Below B w (wput5 w' g a b c d e) :=
  ((((h.setCell hg a).setCell hg b).setCell hg c).setCell hg d).setCell hg e
theorem Blk.five {x y z u v : Value} (k : Blk w g t #[x, y, z, u, v]) : (w.cell? ⟨g, 0, none⟩ = some x ∧ w.cell? ⟨g, 1, none⟩ = some y ∧ w.cell? ⟨g, 2, none⟩ = some z ∧ w.cell? ⟨g, 3, none⟩ = some u ∧ w.cell? ⟨g, 4, none⟩ = some v) ∧
    (w.frozen? ⟨g, 0, none⟩ = false ∧ w.frozen? ⟨g, 1, none⟩ = false ∧ w.frozen? ⟨g, 2, none⟩ = false ∧ w.frozen? ⟨g, 3, none⟩ = false ∧ w.frozen? ⟨g, 4, none⟩ = false) :=
  ⟨⟨k.cell 0, k.cell 1, k.cell 2, k.cell 3, k.cell 4⟩, k.frozen 0, k.frozen 1, k.frozen 2, k.frozen 3, k.frozen 4⟩
end
/-- A token as a value. -/
def tkA (t : Tk) : Value := .agg #[.int .u8 t.kd, .int .i64 t.ps, .string ⟨t.tx.toArray⟩, .int .i32 t.nn, .int .u64 t.ff]
theorem tkA_noT : tkA noT = .agg #[.int .u8 0, .int .i64 0, .string ⟨#[]⟩, .int .i32 0, .int .u64 0] := rfl
def RetTok (E : Int) (T : Tk) (w : World) (e : Ending) (w' : World) : Prop := ∃ t : Tk, e = .returned (.tuple #[tkA t, .int .i64 E]) ∧ (E = 0 → t = T) ∧ Below w.heap.size w w'
def wdE (l : List UInt8) : Int := if 32 < l.length then 91 else 0
def wdT (l : List UInt8) : Tk := ⟨if kwS.contains l then 4 else 1, 0, l, 0, 0⟩
theorem tkA_of (k : Int) (s : ByteArray) : tkA ⟨k, 0, s.data.toList, 0, 0⟩ = .agg #[.int .u8 k, .int .i64 0, .string s, .int .i32 0, .int .u64 0] := by unfold tkA; rw [← str_of rfl]
theorem xWordT_any (s : ByteArray) (g : Nat) (w : World) (hs : s.size ≤ 1048576) (hK : KwOk w g) :
    Calls Tryz.prog 33 #[.string s, .map (some g)] w (RetTok (wdE s.data.toList) (wdT s.data.toList) w) := by
  by_cases h : 32 < s.size
  · have h' : (32 : Int) < (s.size : Int) := by omega
    have e : wdE s.data.toList = 91 := by unfold wdE; rw [← Lib.size_eq, if_pos h]
    rw [e]
    go_enter Tryz.func33, Tryz.ntmps33
    go_wp2_with fail
    refine bodyPost_ret (by simp [results, Tryz.results33, go_sem]; (try rfl)) rfl ⟨noT, rfl, fun h => by omega, ?_⟩
    exact bel_alloc (Below.refl _ _) _
  · have h' : ¬ (32 : Int) < (s.size : Int) := by omega
    have e : wdE s.data.toList = 0 := by unfold wdE; rw [← Lib.size_eq, if_neg h]
    rw [e]
    obtain ⟨c, hc, hd⟩ := (hK.alloc (.cells #[.int .u8 0, .int .i64 0, .string ⟨#[]⟩, .int .i32 0, .int .u64 0] 34)).look s hs
    cases hk : kwS.contains s.data.toList
    · rw [hk, decide_eq_false_iff_not] at hd
      have eT : Hid (wdT s.data.toList = ⟨1, 0, s.data.toList, 0, 0⟩) := by show _ = _; unfold wdT; rw [hk]; rfl
      clear hk h e
      go_enter Tryz.func33, Tryz.ntmps33
      go_wp2_with fail
      refine bodyPost_ret (by simp [results, Tryz.results33, go_sem]; (try rfl)) rfl ⟨⟨1, 0, s.data.toList, 0, 0⟩, ?_, fun _ => eT.out.symm, ?_⟩
      · rw [tkA_of]
      · exact bel_alloc (Below.refl _ _) _
    · rw [hk, decide_eq_true_eq] at hd
      have eT : Hid (wdT s.data.toList = ⟨4, 0, s.data.toList, 0, 0⟩) := by show _ = _; unfold wdT; rw [hk]; rfl
      clear hk h e
      go_enter Tryz.func33, Tryz.ntmps33
      go_wp2_with fail
      refine bodyPost_ret (by simp [results, Tryz.results33, go_sem]; (try rfl)) rfl ⟨⟨4, 0, s.data.toList, 0, 0⟩, ?_, fun _ => eT.out.symm, ?_⟩
      · rw [tkA_of]
      · exact bel_alloc (Below.refl _ _) _

def flE (l : List UInt8) : Int := if psE l = 0 then 0 else 93
def flT (l : List UInt8) : Tk := ⟨3, 0, [], 0, psF l⟩
theorem xFloatT_any (s : ByteArray) (w : World) (hs : s.size ≤ 1048576) (ha : Ascii s) (hE : EnvOk w) :
    Calls Tryz.prog 60 #[.string s] w (RetTok (flE s.data.toList) (flT s.data.toList) w) := by
  have P := Lib.hid fun w hE => parse_any s w hs ha hE
  have eE : flE s.data.toList = if psE s.data.toList = 0 then 0 else 93 := rfl
  have eT : flT s.data.toList = ⟨3, 0, [], 0, psF s.data.toList⟩ := rfl
  generalize flE s.data.toList = E at *
  generalize flT s.data.toList = T at *
  generalize psF s.data.toList = f at *
  generalize psE s.data.toList = p at *
  have TT := Lib.hid eT
  clear eT
  by_cases h : p = 0
  · subst h
    obtain rfl : E = 0 := eE
    go_enter Tryz.func60, Tryz.ntmps60
    go_wp2_with fail
    refine (P.out _ (hE.alloc _)).mono ?_
    rintro e w1 ⟨rfl, hb⟩
    have K := Blk.made hb
    have HB := Lib.hid (bel_trans (bel_alloc (Below.refl _ _) _) hb)
    obtain ⟨⟨c0, c1, c2, c3, c4⟩, f0, f1, f2, f3, f4⟩ := K.five
    clear hb P
    go_wp2_with fail
    have K2 := K.put5 (.int .u8 3) (.int .i64 0) (.string ⟨#[]⟩) (.int .i32 0) (.int .u64 f)
    have HB2 := Lib.hid (bel_put5 HB.out (Nat.le_refl _) (.int .u8 3) (.int .i64 0) (.string ⟨#[]⟩) (.int .i32 0) (.int .u64 f))
    unfold wput5 at K2 HB2
    obtain ⟨⟨q0, q1, q2, q3, q4⟩, -⟩ := K2.five
    exact bodyPost_ret (by simp [results, Tryz.results60, go_sem, q0, q1, q2, q3, q4]; (try rfl)) rfl ⟨⟨3, 0, [], 0, f⟩, rfl, fun _ => TT.out.symm, HB2.out⟩
  · rw [if_neg h] at eE
    subst eE
    have h' : (p != 0) = true := by simpa using h
    go_enter Tryz.func60, Tryz.ntmps60
    go_wp2_with fail
    refine (P.out _ (hE.alloc _)).mono ?_
    rintro e w1 ⟨rfl, hb⟩
    have K := Blk.made hb
    have HB := Lib.hid (bel_trans (bel_alloc (Below.refl _ _) _) hb)
    obtain ⟨⟨c0, c1, c2, c3, c4⟩, f0, f1, f2, f3, f4⟩ := K.five
    clear hb P
    go_wp2_with fail
    have K2 := K.put5 (.int .u8 0) (.int .i64 0) (.string ⟨#[]⟩) (.int .i32 0) (.int .u64 0)
    have HB2 := Lib.hid (bel_put5 HB.out (Nat.le_refl _) (.int .u8 0) (.int .i64 0) (.string ⟨#[]⟩) (.int .i32 0) (.int .u64 0))
    unfold wput5 at K2 HB2
    obtain ⟨⟨q0, q1, q2, q3, q4⟩, -⟩ := K2.five
    exact bodyPost_ret (by simp [results, Tryz.results60, go_sem, q0, q1, q2, q3, q4]; (try rfl)) rfl ⟨noT, rfl, fun h => by omega, HB2.out⟩
end Go.Proofs.YtkhddadhkkffnaaGreatDoor
