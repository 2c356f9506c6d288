/-
  The contract of the examples of layer 1: they hold.
-/
import Derived.Test.YtbpgallhlfjgjaaSum
namespace Go.Proofs.Ytbpgallhlfjgjaa
open Go.RowKit

theorem Blk.next {w w' : World} {g : Nat} {t : TypeId} {cs : Array Value} {o : Obj} (h : Blk w g t cs) (hb : Below (w.alloc o).heap.size (w.alloc o) w') : Blk w' g t cs := (h.alloc o).below hb (h.alloc o).lt
theorem Blk.made {w w' : World} {t : TypeId} {cs : Array Value} (hb : Below (w.alloc (.cells cs t)).heap.size (w.alloc (.cells cs t)) w') : Blk w' w.heap.size t cs := (Blk.new w t cs).below hb (Blk.new w t cs).lt

theorem two_eq {h l H L : Int} (w1 : Word h) (w2 : Word l) (w3 : Word H) (w4 : Word L) (e : V2 h l = V2 H L) : h = H ∧ l = L := by
  obtain ⟨_, _⟩ := w1; obtain ⟨_, _⟩ := w2; obtain ⟨_, _⟩ := w3; obtain ⟨_, _⟩ := w4
  unfold V2 at e
  omega
theorem three_eq {h m l H M L : Int} (w1 : Word h) (w2 : Word m) (w3 : Word l) (w4 : Word H) (w5 : Word M) (w6 : Word L) (e : V3 h m l = V3 H M L) : h = H ∧ m = M ∧ l = L := by
  obtain ⟨_, _⟩ := w1; obtain ⟨_, _⟩ := w2; obtain ⟨_, _⟩ := w3; obtain ⟨_, _⟩ := w4; obtain ⟨_, _⟩ := w5; obtain ⟨_, _⟩ := w6
  unfold V3 at e
  omega
theorem sqrt_unique {a r s : Int} (h0 : 0 ≤ r) (hs : 0 ≤ s) (h1 : r * r ≤ a) (h2 : a < (r + 1) * (r + 1)) (h3 : s * s ≤ a) (h4 : a < (s + 1) * (s + 1)) : r = s := by
  rcases Int.lt_trichotomy r s with h | h | h
  · have : (r + 1) * (r + 1) ≤ s * s := Int.mul_le_mul (by omega) (by omega) (by omega) (by omega)
    omega
  · exact h
  · have : (s + 1) * (s + 1) ≤ r * r := Int.mul_le_mul (by omega) (by omega) (by omega) (by omega)
    omega

set_option maxRecDepth 100000 in
set_option maxHeartbeats 6400000 in
theorem works1 (w : World) : Calls Try.prog 11 #[] w fun e w' => e = .returned (.bool true) ∧ Below w.heap.size w w' := by
  go_enter Try.func11, Try.ntmps11
  go_wp2_with fail
  refine (mul1 18446744073709551615 18446744073709551615 ⟨by decide, by decide⟩ ⟨by decide, by decide⟩ _).mono ?_
  rintro e w1 ⟨v, ⟨h, l, hh, hl, hv, rfl⟩, rfl, hb1⟩
  obtain ⟨rfl, rfl⟩ := two_eq hh hl (H := 18446744073709551614) (L := 1) ⟨by decide, by decide⟩ ⟨by decide, by decide⟩ (hv.trans (by decide))
  clear hh hl hv
  go_wp2_with fail
  refine (shr2 1 0 1 ⟨by decide, by decide⟩ ⟨by decide, by decide⟩ (by decide) _).mono ?_
  rintro e w2 ⟨v, ⟨h, l, hh, hl, hv, rfl⟩, rfl, hb2⟩
  obtain ⟨rfl, rfl⟩ := two_eq hh hl (H := 0) (L := 9223372036854775808) ⟨by decide, by decide⟩ ⟨by decide, by decide⟩ (hv.trans (by decide))
  rw [show decide (V2 1 0 % 2 ^ (1 : Int).toNat ≠ 0) = false by decide]
  clear hh hl hv
  have K1 := Blk.made hb2
  go_wp2_with fail
  refine (shr2 0 3 1 ⟨by decide, by decide⟩ ⟨by decide, by decide⟩ (by decide) _).mono ?_
  rintro e w3 ⟨v, ⟨h, l, hh, hl, hv, rfl⟩, rfl, hb3⟩
  obtain ⟨rfl, rfl⟩ := two_eq hh hl (H := 0) (L := 1) ⟨by decide, by decide⟩ ⟨by decide, by decide⟩ (hv.trans (by decide))
  rw [show decide (V2 0 3 % 2 ^ (1 : Int).toNat ≠ 0) = true by decide]
  clear hh hl hv
  have K2 := Blk.made hb3
  have L1 := K1.next hb3
  go_wp2_with fail
  refine (div2 1 5 10 ⟨by decide, by decide⟩ ⟨by decide, by decide⟩ ⟨by decide, by decide⟩ _).mono ?_
  rintro e w4 ⟨v, ⟨h, l, r, hh, hl, hr, hz, hv, rfl⟩, rfl, hb4⟩
  clear hz
  obtain ⟨hr1, hv1⟩ := hv (by decide)
  have hv2 : V2 h l = 1844674407370955162 := by unfold V2 at *; have := hr.1; omega
  obtain rfl : r = 1 := by rw [hv2] at hv1; unfold V2 at hv1; omega
  obtain ⟨rfl, rfl⟩ := two_eq hh hl (H := 0) (L := 1844674407370955162) ⟨by decide, by decide⟩ ⟨by decide, by decide⟩ (hv2.trans (by decide))
  clear hh hl hv hr1 hv1 hv2 hr
  have K3 := Blk.made hb4
  have L2 := K2.next hb4
  have M1 := L1.next hb4
  clear K1 K2 L1
  go_wp2_with fail
  refine (sqrt2 0 17 ⟨by decide, by decide⟩ ⟨by decide, by decide⟩ _).mono ?_
  rintro e w5 ⟨v, ⟨r, h, l, hr, hh, hl, s1, s2, hv, rfl⟩, rfl, hb5⟩
  obtain rfl := sqrt_unique (a := V2 0 17) (s := 4) hr.1 (by decide) s1 s2 (by decide) (by decide)
  obtain ⟨rfl, rfl⟩ := two_eq hh hl (H := 0) (L := 1) ⟨by decide, by decide⟩ ⟨by decide, by decide⟩ (hv.trans (by decide))
  clear hh hl hv hr s1 s2
  have A1 := M1.next hb5
  have A2 := L2.next hb5
  have A3 := K3.next hb5
  have A4 := Blk.made hb5
  clear M1 L2 K3
  go_wp2_with fail
  refine (mul2 0 3 5 ⟨by decide, by decide⟩ ⟨by decide, by decide⟩ ⟨by decide, by decide⟩ _).mono ?_
  rintro e w6 ⟨v, ⟨h, m, l, hh, hm, hl, hv, rfl⟩, rfl, hb6⟩
  obtain ⟨rfl, rfl, rfl⟩ := three_eq hh hm hl (H := 0) (M := 0) (L := 15) ⟨by decide, by decide⟩ ⟨by decide, by decide⟩ ⟨by decide, by decide⟩ (hv.trans (by decide))
  clear hh hm hl hv
  have B1 := A1.next hb6
  have B2 := A2.next hb6
  have B3 := A3.next hb6
  have B4 := A4.next hb6
  have B5 := Blk.made hb6
  clear A1 A2 A3 A4
  go_wp2_with fail
  refine (sum_any _ (w6.heap.size + 1) 0 2 2 [(0, 1), (2, 0)] rfl (by decide) _ (fun _ => rfl) (fun _ => by simp) ?hw ?hc).mono ?_
  case hw =>
    intro p hp
    simp at hp
    rcases hp with rfl | rfl <;> exact ⟨⟨by decide, by decide⟩, ⟨by decide, by decide⟩⟩
  case hc =>
    intro i p h
    rcases i with _ | _ | i
    · simp at h; subst h; simp [go_sem]
    · simp at h; subst h; simp [go_sem]
    · simp at h
  rintro e w7 ⟨v, ⟨h, m, l, hh, hm, hl, hv, rfl⟩, rfl, hb7⟩
  obtain ⟨rfl, rfl, rfl⟩ := three_eq hh hm hl (H := 0) (M := 2) (L := 1) ⟨by decide, by decide⟩ ⟨by decide, by decide⟩ ⟨by decide, by decide⟩ (hv.trans (by decide))
  clear hh hm hl hv
  have C1 := (B1.alloc _).next hb7
  have C2 := (B2.alloc _).next hb7
  have C3 := (B3.alloc _).next hb7
  have C4 := (B4.alloc _).next hb7
  have C5 := (B5.alloc _).next hb7
  have C6 := ((Blk.new w6 45 #[.int .u64 0, .int .u64 0, .int .u64 15])).next hb7
  clear B1 B2 B3 B4 B5
  have c10 : ∀ o, (w7.alloc o).cell? ⟨w1.heap.size, 0, none⟩ = some (.int .u64 18446744073709551614) := fun o => (C1.alloc o).cell 0
  have c11 : ∀ o, (w7.alloc o).cell? ⟨w1.heap.size, 1, none⟩ = some (.int .u64 1) := fun o => (C1.alloc o).cell 1
  have c21 : ∀ o, (w7.alloc o).cell? ⟨w2.heap.size, 1, none⟩ = some (.int .u64 9223372036854775808) := fun o => (C2.alloc o).cell 1
  have c31 : ∀ o, (w7.alloc o).cell? ⟨w3.heap.size, 1, none⟩ = some (.int .u64 1) := fun o => (C3.alloc o).cell 1
  have c41 : ∀ o, (w7.alloc o).cell? ⟨w4.heap.size, 1, none⟩ = some (.int .u64 1844674407370955162) := fun o => (C4.alloc o).cell 1
  have c51 : ∀ o, (w7.alloc o).cell? ⟨w5.heap.size, 1, none⟩ = some (.int .u64 1) := fun o => (C5.alloc o).cell 1
  have c62 : ∀ o, (w7.alloc o).cell? ⟨w6.heap.size, 2, none⟩ = some (.int .u64 15) := fun o => (C6.alloc o).cell 2
  clear C1 C2 C3 C4 C5 C6
  have HB := Lib.hid (bel_trans (bel_alloc (bel_alloc (bel_trans (bel_alloc (bel_trans (bel_alloc (bel_trans (bel_alloc (bel_trans (bel_alloc (bel_trans (bel_alloc hb1 _) hb2) _) hb3) _) hb4) _) hb5) _) hb6) _) _) hb7)
  clear hb1 hb2 hb3 hb4 hb5 hb6 hb7
  go_wp2
  go_ret
  exact ⟨rfl, bel_alloc HB.out _⟩
end Go.Proofs.Ytbpgallhlfjgjaa
