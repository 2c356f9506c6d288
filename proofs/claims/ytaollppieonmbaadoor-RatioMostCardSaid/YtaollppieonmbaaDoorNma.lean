/-
  Contract of nat's mulAdd: a number times a word, and a word more, in the number's own memory. Conditions: at most 2^20 words, each of 32 bits; the memory is the caller's own.
-/
import Derived.Test.YtaollppieonmbaaDoorNpow
import Derived.Laws.OwnMore
namespace Go.Proofs.YtaollppieonmbaaDoor
open Go.RowKit
set_option maxRecDepth 100000

theorem map_set (us : List Int) (i : Nat) (x : Int) : (us.map (Value.int .u32)).set i (.int .u32 x) = (us.set i x).map (Value.int .u32) := by rw [List.map_set]

/-- So many words have been multiplied; the carry. -/
structure MaTo (us zs : List Int) (f c0 : Int) (k : Nat) (cr : Int) : Prop where
  len : zs.length = us.length
  all : AllW zs
  eq : nv (zs.take k) + 2 ^ (32 * k) * cr = nv (us.take k) * f + c0
  same : ∀ j, k ≤ j → zs.getD j 0 = us.getD j 0
  car : W32 cr
theorem MaTo.next {us zs : List Int} {f c0 y : Int} {k : Nat} {cr : Int} (h : MaTo us zs f c0 k cr) (hk : k < us.length) (hf : W32 f) (hy : W32 y) (ey : us.getD k 0 = y) :
    MaTo us (zs.set k (low32 (y * f + cr))) f c0 (k + 1) (car32 (y * f + cr)) := by
  obtain ⟨h1, h2, h3, h4, h5⟩ := h
  have pb := prod_bd hf hy
  refine ⟨by rw [List.length_set, h1], h2.set _ (w32_low _), ?_, fun j hj => ?_, ?_⟩
  · rw [nv_take_succ, nv_take_succ, take_set, getD_set _ _ _ (by omega), ey, pow32]
    have e2 := mul_car (2 ^ (32 * k)) (car_low (y * f + cr))
    rw [Int.mul_add] at e2
    rw [Int.add_mul, Int.mul_assoc _ y f]
    omega
  · rw [getD_set_ne _ _ _ _ (by omega)]
    exact h4 j (by omega)
  · obtain ⟨_, _⟩ := h5
    constructor <;> unfold car32 <;> omega

/-- What mulAdd hands back. -/
def RetMa (v : Int) (n base : Nat) (w : World) (e : Ending) (w' : World) : Prop :=
  ∃ (zs : List Int) (m : Nat) (u : Value), nv zs = v ∧ AllW zs ∧ m ≤ n + 1 ∧ e = .returned u ∧ w'.ownsRow base 80 1 u m (zs.map (Value.int .u32)) ∧ Below base w w' ∧ w.heap.size ≤ w'.heap.size

end Go.Proofs.YtaollppieonmbaaDoor
