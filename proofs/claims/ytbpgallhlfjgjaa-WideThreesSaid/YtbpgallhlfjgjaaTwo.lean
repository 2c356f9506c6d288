/-
  Contracts of wide.Mul and of U128's Add and Sub, for all words: the number that comes back is the product, the sum, the difference (with its carry or borrow). Conditions: the fields are words of 64 bits.
-/
import Derived.Test.YtbpgallhlfjgjaaBits
import Derived.Deep.Draws
namespace Go.Proofs.Ytbpgallhlfjgjaa
open Go.RowKit

/-- A call came back with a value of which P holds; nothing that was there has changed. -/
def Ret (P : Value → Prop) (w : World) (e : Ending) (w' : World) : Prop := ∃ v, P v ∧ e = .returned v ∧ Below w.heap.size w w'

theorem bel_alloc {w w' : World} (h : Below w.heap.size w w') (o : Obj) : Below w.heap.size w (w'.alloc o) := h.alloc h.size o
theorem bel_drew {w w' : World} (h : Below w.heap.size w w') : Below w.heap.size w w'.drew := h.drew
theorem bel_drewN {w w' : World} (h : Below w.heap.size w w') (n : Nat) : Below w.heap.size w (w'.drewN n) := ⟨h.os, h.tape, h.output, h.size, h.block⟩
theorem bel_trans {w w1 w2 : World} (h : Below w.heap.size w w1) (k : Below w1.heap.size w1 w2) : Below w.heap.size w w2 := h.trans (k.mono h.size)
theorem bel_set {w w' : World} (h : Below w.heap.size w w') {p : Addr} (hp : w.heap.size ≤ p.block) (u : Value) : Below w.heap.size w (w'.setCell p u) := h.setCell hp u

/-- A pair (number of two words, word). -/
def IsAdd2 (a b : Int) (v : Value) : Prop := ∃ h l c : Int, Word h ∧ Word l ∧ 0 ≤ c ∧ c ≤ 1 ∧ V2 h l + c * 340282366920938463463374607431768211456 = a + b ∧ v = .tuple #[.agg #[.int .u64 h, .int .u64 l], .int .u64 c]
def IsSub2 (a b : Int) (v : Value) : Prop := ∃ h l c : Int, Word h ∧ Word l ∧ 0 ≤ c ∧ c ≤ 1 ∧ V2 h l - c * 340282366920938463463374607431768211456 = a - b ∧ v = .tuple #[.agg #[.int .u64 h, .int .u64 l], .int .u64 c]

theorem add2_eq {ah al bh bl : Int} (h1 : Word ah) (h2 : Word al) (h3 : Word bh) (h4 : Word bl) :
    IsAdd2 (V2 ah al) (V2 bh bl) (.tuple #[.agg #[.int .u64 (lowOf (ah + bh + carry (al + bl))), .int .u64 (lowOf (al + bl))], .int .u64 (carry (ah + bh + carry (al + bl)))]) := by
  have k0 : 0 ≤ carry (al + bl) := by have := carry_ge h2 h4 (Int.le_refl 0); rwa [Int.add_zero] at this
  have k1 : carry (al + bl) ≤ 1 := by have := carry_le h2 h4 (Int.le_refl 0) (by decide); rwa [Int.add_zero] at this
  refine ⟨_, _, _, word_lowOf _, word_lowOf _, carry_ge h1 h3 k0, carry_le h1 h3 k0 k1, ?_, rfl⟩
  have e1 := carry_low (al + bl)
  have e2 := carry_low (ah + bh + carry (al + bl))
  generalize carry (ah + bh + carry (al + bl)) = c2 at *
  generalize lowOf (ah + bh + carry (al + bl)) = l2 at *
  unfold V2
  omega

theorem add2 (ah al bh bl : Int) (h1 : Word ah) (h2 : Word al) (h3 : Word bh) (h4 : Word bl) (w : World) :
    Calls Try.prog 12 #[.agg #[.int .u64 ah, .int .u64 al], .agg #[.int .u64 bh, .int .u64 bl]] w (Ret (IsAdd2 (V2 ah al) (V2 bh bl)) w) := by
  have k0 : 0 ≤ carry (al + bl) := by have := carry_ge h2 h4 (Int.le_refl 0); rwa [Int.add_zero] at this
  have k1 : carry (al + bl) ≤ 1 := by have := carry_le h2 h4 (Int.le_refl 0) (by decide); rwa [Int.add_zero] at this
  have fin := add2_eq h1 h2 h3 h4
  have A0 : ∀ w, (callFunc 45 #[.int .u64 al, .int .u64 bl, .int .u64 0]).run Try.prog w = .ok (.value (.tuple #[.int .u64 (lowOf (al + bl)), .int .u64 (carry (al + bl))])) w := fun w => by
    have := add64w al bl 0 h2 h4 (Int.le_refl 0) (by decide) w
    rwa [Int.add_zero] at this
  have A1 := add64w ah bh _ h1 h3 k0 k1
  go_enter Try.func12, Try.ntmps12
  go_wp2_with (first | simp only [A0] | simp only [A1])
  refine bodyPost_ret (by simp [results, Try.results12, go_sem]) rfl ⟨_, fin, rfl, ?_⟩
  exact bel_alloc (bel_alloc (bel_alloc (Below.refl _ _) _) _) _

theorem sub2_eq {ah al bh bl : Int} (h1 : Word ah) (h2 : Word al) (h3 : Word bh) (h4 : Word bl) :
    IsSub2 (V2 ah al) (V2 bh bl) (.tuple #[.agg #[.int .u64 (lowOf (ah - (bh + bor al bl))), .int .u64 (lowOf (al - bl))], .int .u64 (bor ah (bh + bor al bl))]) := by
  have k0 := bor_ge al bl
  have k1 := bor_le al bl
  refine ⟨_, _, _, word_lowOf _, word_lowOf _, bor_ge _ _, bor_le _ _, ?_, rfl⟩
  have e1 := bor_low h2 h4.1 (by have := h4.2; omega)
  have e2 := bor_low h1 (y := bh + bor al bl) (by have := h3.1; omega) (by have := h3.2; omega)
  rw [e1, e2]
  generalize bor ah (bh + bor al bl) = c2 at *
  generalize bor al bl = c1 at *
  unfold V2
  omega

theorem sub2 (ah al bh bl : Int) (h1 : Word ah) (h2 : Word al) (h3 : Word bh) (h4 : Word bl) (w : World) :
    Calls Try.prog 13 #[.agg #[.int .u64 ah, .int .u64 al], .agg #[.int .u64 bh, .int .u64 bl]] w (Ret (IsSub2 (V2 ah al) (V2 bh bl)) w) := by
  have k0 := bor_ge al bl
  have k1 := bor_le al bl
  have fin := sub2_eq h1 h2 h3 h4
  have A0 : ∀ w, (callFunc 46 #[.int .u64 al, .int .u64 bl, .int .u64 0]).run Try.prog w = .ok (.value (.tuple #[.int .u64 (lowOf (al - bl)), .int .u64 (bor al bl)])) w := fun w => by
    have := sub64w al bl 0 h2 h4 (Int.le_refl 0) (by decide) w
    rwa [Int.add_zero] at this
  have A1 := sub64w ah bh _ h1 h3 k0 k1
  go_enter Try.func13, Try.ntmps13
  go_wp2_with (first | simp only [A0] | simp only [A1])
  refine bodyPost_ret (by simp [results, Try.results13, go_sem]) rfl ⟨_, fin, rfl, ?_⟩
  exact bel_alloc (bel_alloc (bel_alloc (Below.refl _ _) _) _) _

/-- The number n, in two words. -/
def Is2 (n : Int) (v : Value) : Prop := ∃ h l : Int, Word h ∧ Word l ∧ V2 h l = n ∧ v = .agg #[.int .u64 h, .int .u64 l]
/-- The number n, in three words. -/
def Is3 (n : Int) (v : Value) : Prop := ∃ h m l : Int, Word h ∧ Word m ∧ Word l ∧ V3 h m l = n ∧ v = .agg #[.int .u64 h, .int .u64 m, .int .u64 l]

/-- Mul makes one block and no more. -/
def IsMul1 (n : Int) (w : World) (e : Ending) (w' : World) : Prop := ∃ h l : Int, Word h ∧ Word l ∧ V2 h l = n ∧ e = .returned (.agg #[.int .u64 h, .int .u64 l]) ∧ ∃ c : Array Value, w' = w.alloc (.cells c 24)
theorem mul1x (a b : Int) (h1 : Word a) (h2 : Word b) (w : World) : Calls Try.prog 23 #[.int .u64 a, .int .u64 b] w (IsMul1 (a * b) w) := by
  go_enter Try.func23, Try.ntmps23
  go_wp2_with (go_at_call 50; refine (mul64 a b h1 h2 _).mono ?_; rintro e w1 ⟨h, l, hh, hl, hv, rfl, rfl⟩; have HV := Lib.hid hv; clear hv)
  refine bodyPost_ret (by simp [results, Try.results23, go_sem]) rfl ⟨h, l, hh, hl, HV.out, rfl, _, rfl⟩

theorem mul1 (a b : Int) (h1 : Word a) (h2 : Word b) (w : World) : Calls Try.prog 23 #[.int .u64 a, .int .u64 b] w (Ret (Is2 (a * b)) w) := by
  go_enter Try.func23, Try.ntmps23
  go_wp2_with (go_at_call 50; refine (mul64 a b h1 h2 _).mono ?_; rintro e w1 ⟨h, l, hh, hl, hv, rfl, rfl⟩; have HV := Lib.hid hv; clear hv)
  refine bodyPost_ret (by simp [results, Try.results23, go_sem]) rfl ⟨_, ⟨h, l, hh, hl, HV.out, rfl⟩, rfl, ?_⟩
  exact bel_alloc (Below.refl _ _) _
end Go.Proofs.Ytbpgallhlfjgjaa
