/-
  The contract of soft's Sum: one float after the other is added to +0. Conditions: at most 1000 floats, each a word.
-/
import Derived.Test.YtkdckclefegocaaGreatDoorSofF
namespace Go.Proofs.YtkdckclefegocaaGreatDoor
open Go.RowKit
set_option maxRecDepth 100000

theorem sg_word (s : Bool) : Word (sg s) := by cases s <;> exact ⟨by decide, by decide⟩
theorem saF_word {md a b : Int} (ha : Word a) (hb : Word b) : Word (saF md a b) := by
  unfold saF
  split
  · exact ⟨by decide, by decide⟩
  · split
    · exact ⟨by decide, by decide⟩
    · split
      · exact ha
      · split
        · exact hb
        · unfold smF
          split
          · exact sg_word _
          · exact dF_word _ _
/-- The sum of the first k floats. -/
def smK (md : Int) (fs : List Int) : Nat → Int
  | 0 => 0
  | k + 1 => saF md (smK md fs k) (fs.getD k 0)
theorem smK_word {md : Int} {fs : List Int} (hf : AllF fs) : ∀ {k : Nat}, k ≤ fs.length → Word (smK md fs k)
  | 0, _ => ⟨Int.le_refl 0, show (0 : Int) < 18446744073709551616 by decide⟩
  | k + 1, h => saF_word (smK_word hf (by omega)) (hf k (by omega))

set_option maxHeartbeats 2000000 in
theorem ssum_any (A : Option Addr) (n c : Nat) (fs : List Int) (md : Int) (w : World) (hn : fs.length = n) (hr : RdW w A fs) (hf : AllF fs) (h2 : n ≤ 1000) :
    Calls Tryz.prog 20 #[.int .u8 md, .slice A n c] w fun e w' => e = .returned (.int .u64 (smK md fs n)) ∧ Below w.heap.size w w' := by
  have HN := Lib.hid hn
  clear hn
  go_enter Tryz.func20, Tryz.ntmps20
  go_wp2_with fail
  refine (sz_any false _).mono ?_
  rintro e w1 ⟨rfl, rfl⟩
  rw [show sg false = 0 by rfl]
  go_wp2_with fail
  go_loopw [5, 11] (fun s5 s11 wr => ∃ i : Nat, s5 = .int .u64 (smK md fs i) ∧ s11 = .int .i64 (i : Int) ∧ i ≤ n ∧ Hid (Below w.heap.size w wr)) (fun _ s11 _ => n - (intOf s11).toNat)
  case atStart => exact ⟨0, rfl, rfl, Nat.zero_le _, Below.refl _ _⟩
  case round =>
    obtain ⟨i, rfl, rfl, hi, HB⟩ := hrel
    by_cases hlt : i < n
    · obtain ⟨g, off, rfl, hg, hc1⟩ := (hr.belowS HB.out).at_ (i := i) (by rw [HN.out]; exact hlt)
      have hx := hf i (by rw [HN.out]; exact hlt)
      have hs := smK_word (md := md) hf (k := i) (by rw [HN.out]; exact hi)
      have hl1 : (i : Int) < (n : Int) := by omega
      have F : Hid (saF md (smK md fs i) (fs.getD i 0) = smK md fs (i + 1)) := rfl
      generalize fs.getD i 0 = x at *
      generalize smK md fs i = s at *
      go_wp2_with fail
      refine (sadd_any s x md hs hx _).mono ?_
      rintro e w1 ⟨rfl, hb1⟩
      have HB1 := Lib.hid (bel_trans HB.out hb1)
      go_wp2_with fail
      go_roundw
      case rel => exact ⟨i + 1, by rw [F.out], by go_num, by omega, by first | exact HB1.out | exact bel_drewN HB1.out _⟩
      case measure => simp [intOf]; omega
    · obtain rfl : i = n := by omega
      go_wp2_with fail
      go_ret
      exact ⟨rfl, HB.out⟩
end Go.Proofs.YtkdckclefegocaaGreatDoor
