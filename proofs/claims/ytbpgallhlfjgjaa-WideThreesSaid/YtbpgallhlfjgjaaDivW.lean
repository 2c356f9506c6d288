/-
  The contract of math/bits.Div64 at every high word below the divisor, and those of U192's divWord and U128's Div. Conditions: words of 64 bits; for divWord the divisor is not nought.
-/
import Derived.Test.YtbpgallhlfjgjaaDiv64
namespace Go.Proofs.Ytbpgallhlfjgjaa
open Go.RowKit

theorem div64_fin {u v v1 v0 y Y y1 y0 n q q0 : Int} {s : Nat} (hU : u * 18446744073709551616 + v = n * 2 ^ s) (hv : v = v1 * 4294967296 + v0) (rY : y * 2 ^ s = Y) (hYs : Y = y1 * 4294967296 + y0) (hY1 : Y < 18446744073709551616)
    (hy : Word y) (F : Found u v1 y1 y0 q) (F2 : Found (u * 4294967296 + v1 - q * Y) v0 y1 y0 q0) : IsQuo q q0 (u * 4294967296 + v1 - q * Y) v0 Y s n y := by
  obtain ⟨a0, a1⟩ := found_rest F
  obtain ⟨b0, b1⟩ := found_rest F2
  rw [← hYs] at a0 a1 b0 b1
  obtain ⟨f0, f1, _, _⟩ := F
  obtain ⟨g0, g1, _, _⟩ := F2
  have hp := pow_pos' s
  have e1 : IntKind.u64.wrap (IntKind.u64.wrap (q * 4294967296) + q0) = q * 4294967296 + q0 := by simp only [IntKind.wrap_u64]; omega
  have e2 := wrap_rest hY1 b0 b1
  have e3 : (u * 4294967296 + v1 - q * Y) * 4294967296 + v0 - q0 * Y = (n - (q * 4294967296 + q0) * y) * 2 ^ s := by
    have e5 : (n - (q * 4294967296 + q0) * y) * 2 ^ s = n * 2 ^ s - (q * 4294967296 + q0) * (y * 2 ^ s) := by rw [Int.sub_mul, Int.mul_assoc]
    rw [e5, rY, ← hU, Int.add_mul, Int.mul_right_comm]
    omega
  have e4 : ((u * 4294967296 + v1 - q * Y) * 4294967296 + v0 - q0 * Y) / 2 ^ s = n - (q * 4294967296 + q0) * y := by
    rw [e3]
    exact Int.mul_ediv_cancel _ (Int.ne_of_gt hp)
  rw [e3] at b0 b1
  have c0 : 0 ≤ n - (q * 4294967296 + q0) * y := Int.nonneg_of_mul_nonneg_left b0 hp
  have c1 : n - (q * 4294967296 + q0) * y < y := Int.lt_of_mul_lt_mul_right (by rw [rY]; exact b1) (Int.le_of_lt hp)
  unfold IsQuo
  rw [e1, e2, e4]
  exact ⟨⟨by omega, by omega⟩, ⟨c0, by have := hy.2; omega⟩, c1, by omega⟩

theorem div64 (hi lo y : Int) (h1 : Word hi) (h2 : Word lo) (h3 : Word y) (hy : hi < y) (w : World) : Calls Try.prog 58 #[.int .u64 hi, .int .u64 lo, .int .u64 y] w (IsDiv64 (V2 hi lo) y w) := by
  by_cases h0 : hi = 0
  · subst h0
    have e : V2 0 lo = lo := by unfold V2; omega
    rw [e]
    exact div64_small lo y h2 h3 hy w
  · have h0' : 0 < hi := by have := h1.1; omega
    obtain ⟨s, es, hs, g1, g2⟩ := lz_arith h3 (by omega)
    have hp := pow_pos' s
    have wY : Word (y * 2 ^ s) := ⟨by omega, g2⟩
    have wv := word_wrap (lo * 2 ^ s)
    have sp := shl_split lo s (by omega)
    have sl := shr_lt lo h2 s (by omega)
    have hu : IntKind.u64.wrap (hi * 2 ^ s) = hi * 2 ^ s := by
      rw [IntKind.wrap_u64]
      refine Int.emod_eq_of_lt (Int.mul_nonneg h1.1 (Int.le_of_lt hp)) ?_
      have := Int.mul_lt_mul_of_pos_right hy hp
      omega
    have ru : bits BinOp.or IntKind.u64 (IntKind.u64.wrap (hi * 2 ^ s)) (lo / 2 ^ (64 - s)) = hi * 2 ^ s + lo / 2 ^ (64 - s) := by
      rw [or_shl hi _ h1 sl.1 s (by omega) sl.2, hu]
    have hu1 : hi * 2 ^ s + lo / 2 ^ (64 - s) < y * 2 ^ s := by
      have := Int.mul_le_mul_of_nonneg_right (show hi + 1 ≤ y by omega) (Int.le_of_lt hp)
      rw [Int.add_mul] at this
      omega
    have hu0 : 0 ≤ hi * 2 ^ s + lo / 2 ^ (64 - s) := by
      have := Int.mul_nonneg h1.1 (Int.le_of_lt hp)
      omega
    have H : Halves (hi * 2 ^ s + lo / 2 ^ (64 - s)) (IntKind.u64.wrap (lo * 2 ^ s) / 4294967296) (y * 2 ^ s / 4294967296) (y * 2 ^ s % 4294967296) := by
      have := wv.1
      have := wv.2
      exact ⟨hu0, by omega, by omega, by omega, by omega, by omega, by omega, by omega⟩
    obtain ⟨rq, rr⟩ := wrap_guess H (by omega)
    refine div64_walk hi lo y h3 h0' hy s hs es (y * 2 ^ s) _ _ _ _ _ _ _ _ g1 g2 rfl rfl (and_low _ wY) ru rfl rfl (and_low _ wv) (by omega) rq rr (guess_first H) H (by omega) (by have := wv.1; omega) (fun q q0 F F2 => div64_fin ?_ (v := IntKind.u64.wrap (lo * 2 ^ s)) (by omega) rfl (by omega) g2 h3 F F2) w
    have e6 : V2 hi lo * 2 ^ s = hi * 2 ^ s * 18446744073709551616 + lo * 2 ^ s := by
      unfold V2
      rw [Int.add_mul, Int.mul_right_comm]
    rw [e6]
    omega

/-- A quotient of three words, and a word that is left. -/
def IsDivW (a b : Int) (v : Value) : Prop := ∃ h m l r : Int, Word h ∧ Word m ∧ Word l ∧ Word r ∧ r < b ∧ V3 h m l * b + r = a ∧ v = .tuple #[.agg #[.int .u64 h, .int .u64 m, .int .u64 l], .int .u64 r]
theorem divWord (h m l b : Int) (h1 : Word h) (h2 : Word m) (h3 : Word l) (h4 : Word b) (hb : 0 < b) (w : World) :
    Calls Try.prog 54 #[.agg #[.int .u64 h, .int .u64 m, .int .u64 l], .int .u64 b] w (Ret (IsDivW (V3 h m l) b) w) := by
  go_enter Try.func54, Try.ntmps54
  go_wp2_with fail
  refine (div64 0 h b ⟨by decide, by decide⟩ h1 h4 hb _).mono ?_
  rintro e w1 ⟨qh, r1, a1, a2, a3, a4, rfl, hb1⟩
  have A4 := Lib.hid a4
  clear a4
  have z0 := hb1.cell (p := ⟨w.heap.size, 1, none⟩) (by simp <;> omega)
  have z1 := hb1.cell (p := ⟨w.heap.size, 2, none⟩) (by simp <;> omega)
  simp [go_sem] at z0 z1
  go_wp2_with fail
  refine (div64 r1 m b a2 h2 h4 a3 _).mono ?_
  rintro e w2 ⟨qm, r2, b1, b2, b3, b4, rfl, hb2⟩
  have B4 := Lib.hid b4
  clear b4
  have hb12 := bel_trans hb1 hb2
  have z2 := hb12.cell (p := ⟨w.heap.size, 2, none⟩) (by simp <;> omega)
  simp [go_sem] at z2
  go_wp2_with fail
  refine (div64 r2 l b b2 h3 h4 b3 _).mono ?_
  rintro e w3 ⟨ql, r3, c1, c2, c3, c4, rfl, hb3⟩
  have C4 := Lib.hid c4
  clear c4
  have hb123 := bel_trans hb12 hb3
  have y0 := hb123.cell (p := ⟨w.heap.size + 1, 0, none⟩) (by simp)
  have y1 := hb123.cell (p := ⟨w.heap.size + 1, 1, none⟩) (by simp)
  have y2 := hb123.cell (p := ⟨w.heap.size + 1, 2, none⟩) (by simp)
  have f0 := hb123.frozen (p := ⟨w.heap.size + 1, 0, none⟩) (by simp)
  have f1 := hb123.frozen (p := ⟨w.heap.size + 1, 1, none⟩) (by simp)
  have f2 := hb123.frozen (p := ⟨w.heap.size + 1, 2, none⟩) (by simp)
  simp [go_sem] at y0 y1 y2 f0 f1 f2
  have fin : IsDivW (V3 h m l) b (.tuple #[.agg #[.int .u64 qh, .int .u64 qm, .int .u64 ql], .int .u64 r3]) := by
    refine ⟨_, _, _, _, a1, b1, c1, c2, c3, ?_, rfl⟩
    have A := A4.out
    have B := B4.out
    have C := C4.out
    unfold V2 at A B C
    unfold V3
    rw [Int.add_mul, Int.add_mul, Int.mul_right_comm, Int.mul_right_comm qm]
    omega
  have HB := Lib.hid hb123
  clear hb1 hb2 hb3 hb12 hb123 A4 B4 C4 z0 z1 z2
  go_wp2
  refine bodyPost_ret (by simp [results, Try.results54, go_sem, y0, y1, y2]) rfl ⟨_, fin, rfl, ?_⟩
  exact bel_set (bel_set (bel_set (bel_trans (bel_alloc (bel_alloc (Below.refl _ _) _) _) HB.out) (by simp) _) (by simp) _) (by simp) _

theorem div2_eq {h l b qh qm ql r : Int} (h1 : Word h) (h2 : Word l) (a1 : Word qh) (a2 : Word qm) (a3 : Word ql) (a4 : Word r) (hb : 0 < b) (e : V3 qh qm ql * b + r = V3 0 h l) : V2 qm ql * b + r = V2 h l := by
  have z : qh = 0 := by
    rcases Int.lt_or_le 0 qh with hq | hq
    · exfalso
      have hv : 340282366920938463463374607431768211456 ≤ V3 qh qm ql := by
        obtain ⟨_, _⟩ := a2; obtain ⟨_, _⟩ := a3
        unfold V3
        omega
      have : 340282366920938463463374607431768211456 * 1 ≤ V3 qh qm ql * b := Int.mul_le_mul hv (by omega) (by decide) (by omega)
      obtain ⟨_, _⟩ := h1; obtain ⟨_, _⟩ := h2; obtain ⟨_, _⟩ := a4
      unfold V3 at *
      omega
    · have := a1.1
      omega
  subst z
  have e1 : V3 0 qm ql = V2 qm ql := by unfold V3 V2; omega
  have e2 : V3 0 h l = V2 h l := by unfold V3 V2; omega
  rw [← e1, ← e2]
  exact e

/-- A quotient of two words, and a word that is left. -/
def IsDiv2 (a b : Int) (v : Value) : Prop := ∃ h l r : Int, Word h ∧ Word l ∧ Word r ∧ (b = 0 → h = 0 ∧ l = 0 ∧ r = 0) ∧ (0 < b → r < b ∧ V2 h l * b + r = a) ∧ v = .tuple #[.agg #[.int .u64 h, .int .u64 l], .int .u64 r]
theorem div2 (h l b : Int) (h1 : Word h) (h2 : Word l) (h3 : Word b) (w : World) :
    Calls Try.prog 35 #[.agg #[.int .u64 h, .int .u64 l], .int .u64 b] w (Ret (IsDiv2 (V2 h l) b) w) := by
  by_cases hb : b = 0
  · subst hb
    have fin : IsDiv2 (V2 h l) 0 (.tuple #[.agg #[.int .u64 0, .int .u64 0], .int .u64 0]) :=
      ⟨0, 0, 0, ⟨by decide, by decide⟩, ⟨by decide, by decide⟩, ⟨by decide, by decide⟩, fun _ => ⟨rfl, rfl, rfl⟩, fun h => absurd h (by decide), rfl⟩
    go_enter Try.func35, Try.ntmps35
    go_wp2
    refine bodyPost_ret (by simp [results, Try.results35, go_sem]) rfl ⟨_, fin, rfl, ?_⟩
    exact bel_alloc (bel_alloc (Below.refl _ _) _) _
  · have t0 : (b == 0) = false := by simp [hb]
    have hb' : 0 < b := by have := h3.1; omega
    go_enter Try.func35, Try.ntmps35
    go_wp2_with fail
    refine (widen_any _ _ _).mono ?_
    rintro e w1 ⟨rfl, hb1⟩
    go_wp2_with fail
    refine (divWord _ _ _ _ ⟨by decide, by decide⟩ h1 h2 h3 hb' _).mono ?_
    rintro e w2 ⟨v, ⟨qh, qm, ql, r, a1, a2, a3, a4, a5, a6, rfl⟩, rfl, hb2⟩
    have A6 := Lib.hid a6
    clear a6
    go_wp2_with fail
    refine (low_any _ _ _ _).mono ?_
    rintro e w3 ⟨rfl, hb3⟩
    have hbb := bel_trans (bel_alloc (bel_trans hb1 hb2) _) hb3
    have r0 := hbb.cell (p := ⟨w.heap.size + 1, 0, none⟩) (by simp)
    have r1 := hbb.cell (p := ⟨w.heap.size + 1, 1, none⟩) (by simp)
    have f0 := hbb.frozen (p := ⟨w.heap.size + 1, 0, none⟩) (by simp)
    have f1 := hbb.frozen (p := ⟨w.heap.size + 1, 1, none⟩) (by simp)
    simp [go_sem] at r0 r1 f0 f1
    have HB := Lib.hid hbb
    have fin : IsDiv2 (V2 h l) b (.tuple #[.agg #[.int .u64 qm, .int .u64 ql], .int .u64 r]) := by
      refine ⟨_, _, _, a2, a3, a4, fun e => absurd e hb, fun _ => ⟨a5, ?_⟩, rfl⟩
      exact div2_eq h1 h2 a1 a2 a3 a4 hb' A6.out
    clear hbb hb1 hb2 hb3 A6
    go_wp2
    refine bodyPost_ret (by simp [results, Try.results35, go_sem, r0, r1]) rfl ⟨_, fin, rfl, ?_⟩
    exact bel_set (bel_set (bel_trans (bel_alloc (bel_alloc (Below.refl _ _) _) _) HB.out) (by simp) _) (by simp) _
end Go.Proofs.Ytbpgallhlfjgjaa
