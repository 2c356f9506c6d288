/-
  The contracts of U128's Sub and widen and of U192's Add once more, with the blocks that they make. Conditions: the fields are words of 64 bits.
-/
import Derived.Test.YtbpgallhlfjgjaaDivW
import Derived.Deep.LoopGhost
namespace Go.Proofs.Ytbpgallhlfjgjaa
open Go.RowKit

/-- A call came back with a value of which P holds, and made three blocks. -/
def Ret3 (P : Value → Prop) (t1 t2 t3 : TypeId) (w : World) (e : Ending) (w' : World) : Prop := ∃ v, P v ∧ e = .returned v ∧ ∃ c1 c2 c3 : Array Value, w' = ((w.alloc (.cells c1 t1)).alloc (.cells c2 t2)).alloc (.cells c3 t3)
def Ret2 (P : Value → Prop) (t1 t2 : TypeId) (w : World) (e : Ending) (w' : World) : Prop := ∃ v, P v ∧ e = .returned v ∧ ∃ c1 c2 : Array Value, w' = (w.alloc (.cells c1 t1)).alloc (.cells c2 t2)

theorem sub2x (ah al bh bl : Int) (h1 : Word ah) (h2 : Word al) (h3 : Word bh) (h4 : Word bl) (w : World) :
    Calls Try.prog 13 #[.agg #[.int .u64 ah, .int .u64 al], .agg #[.int .u64 bh, .int .u64 bl]] w (Ret3 (IsSub2 (V2 ah al) (V2 bh bl)) 24 24 24 w) := by
  have k0 := bor_ge al bl
  have k1 := bor_le al bl
  have fin := sub2_eq h1 h2 h3 h4
  have A0 : ∀ w, (callFunc 46 #[.int .u64 al, .int .u64 bl, .int .u64 0]).run Try.prog w = .ok (.value (.tuple #[.int .u64 (lowOf (al - bl)), .int .u64 (bor al bl)])) w := fun w => by
    have := sub64w al bl 0 h2 h4 (Int.le_refl 0) (by decide) w
    rwa [Int.add_zero] at this
  have A1 := sub64w ah bh _ h1 h3 k0 k1
  go_enter Try.func13, Try.ntmps13
  go_wp2_with (first | simp only [A0] | simp only [A1])
  exact bodyPost_ret (by simp [results, Try.results13, go_sem]) rfl ⟨_, fin, rfl, _, _, _, rfl⟩

theorem widenx (h l : Int) (w : World) : Calls Try.prog 52 #[.agg #[.int .u64 h, .int .u64 l]] w (Ret2 (· = .agg #[.int .u64 0, .int .u64 h, .int .u64 l]) 24 45 w) := by
  go_enter Try.func52, Try.ntmps52
  go_wp2
  exact bodyPost_ret (by simp [results, Try.results52, go_sem]) rfl ⟨_, rfl, rfl, _, _, rfl⟩

theorem add3x (ah am al bh bm bl : Int) (h1 : Word ah) (h5 : Word am) (h2 : Word al) (h3 : Word bh) (h6 : Word bm) (h4 : Word bl) (w : World) :
    Calls Try.prog 40 #[.agg #[.int .u64 ah, .int .u64 am, .int .u64 al], .agg #[.int .u64 bh, .int .u64 bm, .int .u64 bl]] w (Ret3 (IsAdd3 (V3 ah am al) (V3 bh bm bl)) 45 45 45 w) := by
  have k0 : 0 ≤ carry (al + bl) := by have := carry_ge h2 h4 (Int.le_refl 0); rwa [Int.add_zero] at this
  have k1 : carry (al + bl) ≤ 1 := by have := carry_le h2 h4 (Int.le_refl 0) (by decide); rwa [Int.add_zero] at this
  have k2 := carry_ge h5 h6 k0
  have k3 := carry_le h5 h6 k0 k1
  have fin := add3_eq h1 h5 h2 h3 h6 h4
  have A0 : ∀ w, (callFunc 45 #[.int .u64 al, .int .u64 bl, .int .u64 0]).run Try.prog w = .ok (.value (.tuple #[.int .u64 (lowOf (al + bl)), .int .u64 (carry (al + bl))])) w := fun w => by
    have := add64w al bl 0 h2 h4 (Int.le_refl 0) (by decide) w
    rwa [Int.add_zero] at this
  have A1 := add64w am bm _ h5 h6 k0 k1
  have A2 := add64w ah bh _ h1 h3 k2 k3
  go_enter Try.func40, Try.ntmps40
  go_wp2_with (first | simp only [A0] | simp only [A1] | simp only [A2])
  exact bodyPost_ret (by simp [results, Try.results40, go_sem]) rfl ⟨_, fin, rfl, _, _, _, rfl⟩
end Go.Proofs.Ytbpgallhlfjgjaa
