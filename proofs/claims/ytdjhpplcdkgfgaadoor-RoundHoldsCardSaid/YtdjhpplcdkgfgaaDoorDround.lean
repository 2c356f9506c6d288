/-
  Contracts of layer 5's plain functions: assemble, exact, rounded, flags, encode, beyond. Conditions: fields in range.
-/
import Derived.Test.YtdjhpplcdkgfgaaDoorRnd
import Derived.Test.YtdjhpplcdkgfgaaDoorMW
namespace Go.Proofs.YtdjhpplcdkgfgaaDoor
open Go.RowKit
set_option maxRecDepth 100000

def aX (H B : Bool) : Bool := !H && !B
def aw (md : Int) (neg : Bool) (W : Int) (H B : Bool) : Bool := if md = 1 then !neg && !aX H B else if md = 2 then neg && !aX H B else H && (B || decide (W % 2 = 1))

set_option maxHeartbeats 1000000 in
theorem assemble_any (s : Bool) (e m : Int) (hm : Word m) (h : mkOk e m) (w : World) : Calls Tryd.prog 34 #[.bool s, .int .i64 e, .int .u64 m] w fun x w' => x = .returned (.int .u64 (mkF s e m)) ∧ w = w' := by
  go_enter Tryd.func34, Tryd.ntmps34
  go_wp2_with fail
  refine (make_good s e m hm h _).mono ?_
  rintro e w1 ⟨rfl, rfl⟩
  go_wp2_with fail
  go_ret
  exact ⟨rfl, rfl⟩

set_option maxHeartbeats 1000000 in
theorem exact_any (W : Int) (H B : Bool) (w : World) : Calls Tryd.prog 70 #[.agg #[.int .u64 W, .bool H, .bool B]] w fun x w' => x = .returned (.bool (aX H B)) ∧ Below w.heap.size w w' := by
  cases H <;> cases B
  all_goals
    go_enter Tryd.func70, Tryd.ntmps70
    go_wp2_with fail
    go_ret
    exact ⟨rfl, bel_alloc (Below.refl _ _) _⟩

set_option maxHeartbeats 1000000 in
theorem flags_any (W : Int) (H B : Bool) (t : Int) (w : World) : Calls Tryd.prog 39 #[.agg #[.int .u64 W, .bool H, .bool B], .int .i64 t] w fun x w' => x = .returned (.int .u8 (if aX H B then 0 else if t ≤ -1022 then 3 else 1)) ∧ Below w.heap.size w w' := by
  cases hx : aX H B
  · by_cases ht : t ≤ -1022
    · go_enter Tryd.func39, Tryd.ntmps39
      go_wp2_with fail
      refine (exact_any W H B _).mono ?_
      rintro e w1 ⟨rfl, hb⟩
      rw [hx]
      go_wp2_with fail
      go_ret
      exact ⟨ret_int (by simp), bel_trans (bel_alloc (Below.refl _ _) _) hb⟩
    · go_enter Tryd.func39, Tryd.ntmps39
      go_wp2_with fail
      refine (exact_any W H B _).mono ?_
      rintro e w1 ⟨rfl, hb⟩
      rw [hx]
      go_wp2_with fail
      go_ret
      exact ⟨ret_int (by simp), bel_trans (bel_alloc (Below.refl _ _) _) hb⟩
  · go_enter Tryd.func39, Tryd.ntmps39
    go_wp2_with fail
    refine (exact_any W H B _).mono ?_
    rintro e w1 ⟨rfl, hb⟩
    rw [hx]
    go_wp2_with fail
    go_ret
    exact ⟨ret_int (by simp), bel_trans (bel_alloc (Below.refl _ _) _) hb⟩

theorem and1 {f : Int} (h : Word f) : bits BinOp.and IntKind.u64 f 1 = f % 2 := by
  obtain ⟨h0, h1⟩ := h
  obtain ⟨k, rfl⟩ := Int.eq_ofNat_of_zero_le h0
  refine (bits_and_u64_nat k 1 (by omega) (by omega)).trans ?_
  rw [show (1 : Nat) = 2 ^ 1 - 1 by decide, Nat.and_two_pow_sub_one_eq_mod]
  omega

set_option maxHeartbeats 4000000 in
theorem rounded_any (W : Int) (H B : Bool) (neg : Bool) (md : Int) (hW : Word W) (hW' : W < 9007199254740992) (w : World) : Calls Tryd.prog 37 #[.agg #[.int .u64 W, .bool H, .bool B], .bool neg, .int .u8 md] w fun x w' => x = .returned (.int .u64 (W + b2i (aw md neg W H B))) ∧ Below w.heap.size w w' := by
  have WR : Hid (IntKind.u64.wrap (W + 1) = W + 1) := by show _ = _; rw [IntKind.wrap_u64]; have := hW.1; omega
  by_cases h1 : md = 1
  · subst h1
    have F : Hid (aw 1 neg W H B = (!neg && !aX H B)) := by show _ = _; simp [aw]
    cases neg
    · cases hx : aX H B
      all_goals
        go_enter Tryd.func37, Tryd.ntmps37
        go_wp2_with fail
        refine (exact_any W H B _).mono ?_
        rintro e w1 ⟨rfl, hb⟩
        rw [hx]
        have c0 := hb.cell (p := ⟨w.heap.size, 0, none⟩) (by simp)
        simp [go_sem] at c0
        go_wp2_with fail
        go_ret
        exact ⟨ret_int (by rw [F.out, hx]; first | exact (Int.add_zero W).symm | exact WR.out), bel_trans (bel_alloc (Below.refl _ _) _) hb⟩
    · go_enter Tryd.func37, Tryd.ntmps37
      go_wp2_with fail
      go_ret
      exact ⟨ret_int (by rw [F.out]; exact (Int.add_zero W).symm), bel_alloc (Below.refl _ _) _⟩
  · by_cases h2 : md = 2
    · subst h2
      have F : Hid (aw 2 neg W H B = (neg && !aX H B)) := by show _ = _; simp [aw]
      cases neg
      · go_enter Tryd.func37, Tryd.ntmps37
        go_wp2_with fail
        go_ret
        exact ⟨ret_int (by rw [F.out]; exact (Int.add_zero W).symm), bel_alloc (Below.refl _ _) _⟩
      · cases hx : aX H B
        all_goals
          go_enter Tryd.func37, Tryd.ntmps37
          go_wp2_with fail
          refine (exact_any W H B _).mono ?_
          rintro e w1 ⟨rfl, hb⟩
          rw [hx]
          have c0 := hb.cell (p := ⟨w.heap.size, 0, none⟩) (by simp)
          simp [go_sem] at c0
          go_wp2_with fail
          go_ret
          exact ⟨ret_int (by rw [F.out, hx]; first | exact (Int.add_zero W).symm | exact WR.out), bel_trans (bel_alloc (Below.refl _ _) _) hb⟩
    · have F : Hid (aw md neg W H B = (H && (B || decide (W % 2 = 1)))) := by show _ = _; simp [aw, h1, h2]
      have f1 : (md == 1) = false := by simp [h1]
      have f2 : (md == 2) = false := by simp [h2]
      have A := and1 hW
      by_cases hp : W % 2 = 1
      · have A' : (bits BinOp.and IntKind.u64 W 1 == 1) = true := by rw [A, hp]; rfl
        cases H <;> cases B
        all_goals
          go_enter Tryd.func37, Tryd.ntmps37
          go_wp2_with fail
          go_ret
          exact ⟨ret_int (by rw [F.out, decide_eq_true hp]; first | exact (Int.add_zero W).symm | exact WR.out), bel_alloc (Below.refl _ _) _⟩
      · have A' : (bits BinOp.and IntKind.u64 W 1 == 1) = false := by rw [A]; simp [hp]
        cases H <;> cases B
        all_goals
          go_enter Tryd.func37, Tryd.ntmps37
          go_wp2_with fail
          go_ret
          exact ⟨ret_int (by rw [F.out, decide_eq_false hp]; first | exact (Int.add_zero W).symm | exact WR.out), bel_alloc (Below.refl _ _) _⟩

set_option maxHeartbeats 1000000 in
theorem encode_any (W u : Int) (hW : Word W) (hW' : W ≤ 9007199254740992) (h0 : -1074 ≤ u) (h1 : u ≤ 10000) (w : World) : Calls Tryd.prog 36 #[.int .u64 W, .int .i64 u] w fun x w' => x = .returned (.tuple #[.int .i64 (u + 1074 + W / 4503599627370496), .int .u64 (W % 4503599627370496)]) ∧ w = w' := by
  have h2 : 0 ≤ W / 4503599627370496 ∧ W / 4503599627370496 ≤ 2 := by have := hW.1; omega
  have A := andlow hW
  have E : wrap64 (W / 4503599627370496) = W / 4503599627370496 := wrap64_in (by omega) (by omega)
  go_enter Tryd.func36, Tryd.ntmps36
  go_wp2_with fail
  go_ret2
  exact ⟨rfl, rfl⟩

set_option maxHeartbeats 1000000 in
theorem beyond_any (neg : Bool) (md : Int) (w : World) : Calls Tryd.prog 38 #[.bool neg, .int .u8 md] w fun x w' => x = .returned (.int .u64 (rBey md neg + sg neg)) ∧ w = w' := by
  cases neg
  · by_cases h : md = 2
    · subst h
      go_enter Tryd.func38, Tryd.ntmps38
      go_wp2_with fail
      refine (assemble_any false 2046 4503599627370495 ⟨by decide, by decide⟩ ⟨by decide, by decide, by decide⟩ _).mono ?_
      rintro e w1 ⟨rfl, rfl⟩
      go_wp2_with fail
      go_ret
      exact ⟨ret_int (by decide), rfl⟩
    · have f : (md == 2) = false := by simp [h]
      go_enter Tryd.func38, Tryd.ntmps38
      go_wp2_with fail
      refine (inf_f false _).mono ?_
      rintro e w1 ⟨rfl, rfl⟩
      go_wp2_with fail
      go_ret
      exact ⟨ret_int (by simp [rBey, h]), rfl⟩
  · by_cases h : md = 1
    · subst h
      go_enter Tryd.func38, Tryd.ntmps38
      go_wp2_with fail
      refine (assemble_any true 2046 4503599627370495 ⟨by decide, by decide⟩ ⟨by decide, by decide, by decide⟩ _).mono ?_
      rintro e w1 ⟨rfl, rfl⟩
      go_wp2_with fail
      go_ret
      exact ⟨ret_int (by decide), rfl⟩
    · have f : (md == 1) = false := by simp [h]
      go_enter Tryd.func38, Tryd.ntmps38
      go_wp2_with fail
      refine (inf_f true _).mono ?_
      rintro e w1 ⟨rfl, rfl⟩
      go_wp2_with fail
      go_ret
      exact ⟨ret_int (by simp [rBey, h]), rfl⟩
end Go.Proofs.YtdjhpplcdkgfgaaDoor
