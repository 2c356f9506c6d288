/-
  The walk of SoftSums: whatever mode and whatever floats are handed in, the law answers true. Conditions: floats are words.
-/
import Derived.Test.YtkdckclefegocaaWorks6
import Derived.Test.YtkdckclefegocaaSofK
import Derived.Test.YtkdckclefegocaaQopenF
namespace Go.Proofs.Ytkdckclefegocaa
open Go.RowKit
set_option maxRecDepth 100000

set_option maxHeartbeats 4000000 in
theorem lsums_walk (md : Int) (A : Option Addr) (n c : Nat) (fs : List Int) (w : World) (hn : fs.length = n) (hr : RdW w A fs) (hf : AllF fs) :
    Calls Try.prog 9 #[.int .u8 md, .slice A n c] w fun x w' => x = .returned (.bool true) ∧ Below w.heap.size w w' := by
  by_cases h2 : n ≤ 100
  · have z1 : decide ((100 : Int) < (n : Int)) = false := by simp; omega
    have HN := Lib.hid hn
    clear hn
    go_enter Try.func9, Try.ntmps9
    go_wp2_with fail
    refine (works6 _).mono ?_
    rintro x w1 ⟨rfl, hb1⟩
    have HB1 := Lib.hid hb1
    clear hb1
    go_wp2_with fail
    go_loopw [6, 7] (fun s6 s7 wr => ∃ i : Nat, s6 = .int .u64 (smK md fs i) ∧ s7 = .int .i64 (i : Int) ∧ i ≤ n ∧ Hid (Below w.heap.size w wr)) (fun _ s7 _ => n - (intOf s7).toNat)
    case atStart => exact ⟨0, rfl, rfl, Nat.zero_le _, HB1.out⟩
    case round =>
      obtain ⟨i, rfl, rfl, hi, HB⟩ := hrel
      by_cases hlt : i < n
      · obtain ⟨g, off, rfl, hg, hc1⟩ := (hr.belowS HB.out).at_ (i := i) (by rw [HN.out]; exact hlt)
        have hx := hf i (by rw [HN.out]; exact hlt)
        have hs := smK_word (md := md) hf (k := i) (by rw [HN.out]; exact hi)
        have hl1 : (i : Int) < (n : Int) := by omega
        have F : Hid (saF md (smK md fs i) (fs.getD i 0) = smK md fs (i + 1)) := rfl
        generalize fs.getD i 0 = x at *
        generalize smK md fs i = s at *
        go_wp2_with fail
        refine (kadd_any s x md hs hx _).mono ?_
        rintro e w2 ⟨rfl, hb2⟩
        have HB2 := Lib.hid (bel_trans HB.out hb2)
        go_wp2_with fail
        go_roundw
        case rel => exact ⟨i + 1, by rw [F.out], by go_num, by omega, by first | exact HB2.out | exact bel_drewN HB2.out _⟩
        case measure => simp [intOf]; omega
      · obtain rfl : i = n := by omega
        have rr := hr.belowS HB.out
        have SS := Lib.hid (ssum_any A i c fs md wr HN.out rr hf (by omega))
        generalize smK md fs i = s at *
        go_wp2_with fail
        refine SS.out.mono ?_
        rintro e w2 ⟨rfl, hb2⟩
        go_wp2_with fail
        go_ret
        exact ⟨rfl, bel_trans HB.out hb2⟩
  · have z1 : decide ((100 : Int) < (n : Int)) = true := by simp; omega
    clear h2
    go_enter Try.func9, Try.ntmps9
    go_wp2_with fail
    refine (works6 _).mono ?_
    rintro x w1 ⟨rfl, hb1⟩
    go_wp2_with fail
    go_ret
    exact ⟨rfl, hb1⟩
end Go.Proofs.Ytkdckclefegocaa
