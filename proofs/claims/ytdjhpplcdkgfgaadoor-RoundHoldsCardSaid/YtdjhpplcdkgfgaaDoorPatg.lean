/-
  The contract of the reference's Value: the number that a finite float is, in lowest terms. Conditions: the float is a word, and finite.
-/
import Derived.Test.YtdjhpplcdkgfgaaDoorPatf
import Derived.Test.YtdjhpplcdkgfgaaDoorMRc
namespace Go.Proofs.YtdjhpplcdkgfgaaDoor
open Go.RowKit
set_option maxRecDepth 100000

theorem rdw_one (W : World) (t : TypeId) (d : Int) : RdW (W.alloc (.cells #[.int .u64 d] t)) (some ⟨W.heap.size, 0, none⟩) [d] := by
  refine .inr ⟨_, 0, rfl, by simp, fun j v hj => ?_⟩
  rcases j with _ | j
  · simp at hj; subst hj; simp [go_sem]
  · simp at hj
theorem ofV {A : Option Addr} {w : World} {m : Int} (hr : RdW w A [m]) (hm : Word m) : Calls Tryd.prog 12 #[.slice A 1 1] w (RetV (fun w v => RowV w v m 64) w) := by
  refine (rof_any A 1 1 [m] w rfl hr (fun x hx => by simp at hx; subst hx; exact hm) (by decide)).mono fun e w' r => ?_
  obtain ⟨xs, B, c, ⟨hv, hl⟩, rfl, hc, -, hr, hb⟩ := r
  have hl2 : xs.length = 64 := by rw [hl]; rfl
  exact ⟨_, ⟨B, _, c, xs, rfl, rfl, hc, hr, by rw [hv]; simp [wv], by omega⟩, rfl, hb⟩
theorem shlV {w : World} {x : Value} {p N : Int} {L : Nat} (h : RowV w x p L) (hL : L ≤ 1048576) (h0 : 0 ≤ N) (h1 : N ≤ 1048576) (M : Nat) (hM : L + N.toNat ≤ M) : Calls Tryd.prog 100 #[x, .int .i64 N] w (RetV (fun w v => RowV w v (2 ^ N.toNat * p) M) w) := by
  obtain ⟨A, n, c, xs, rfl, hn, hc, hr, hv, hl⟩ := h
  refine (rshl_any A n c xs N w hn hr (by omega) h0 (by omega)).mono fun e w' r => ?_
  obtain ⟨zs, B, d, hs, rfl, hc2, -, hr2, hb⟩ := r
  obtain ⟨e1, e2⟩ := hs.val
  exact ⟨_, ⟨B, _, d, zs, rfl, rfl, hc2, hr2, by rw [e1, hv], by omega⟩, rfl, hb⟩
theorem row_one (W : World) : Rd (W.alloc (.cells #[.bool true] 4)) (some ⟨W.heap.size, 0, none⟩) [true] := by
  refine .inr ⟨_, 0, rfl, (Blk.new W 4 #[.bool true]).typed, fun i b hi => ?_⟩
  rcases i with _ | i
  · simp at hi
    subst hi
    simp [go_sem]
  · simp at hi
theorem blen_pow (k : Nat) : blen (2 ^ k) = ((k + 1 : Nat) : Int) := by
  refine blen_eq (by omega) (by rw [Nat.add_sub_cancel]; exact Int.le_refl _) ?_
  rw [Int.pow_succ]
  have := pow_pos' k
  omega
theorem shl_one {A : Option Addr} {w : World} {N : Int} (hr : Rd w A [true]) (h0 : 0 ≤ N) (h1 : N ≤ 1048576) (M : Nat) (hM : 1 + N.toNat ≤ M) : Calls Tryd.prog 100 #[.slice A 1 1, .int .i64 N] w (RetV (fun w v => RowC w v (2 ^ N.toNat) M) w) := by
  refine (rshl_any A 1 1 [true] N w rfl hr (by decide) h0 (by omega)).mono fun e w' r => ?_
  obtain ⟨zs, B, d, hs, rfl, hc2, -, hr2, hb⟩ := r
  obtain ⟨e1, e2⟩ := hs.val
  have hlen : zs.length = N.toNat + 1 := by rw [e2]; rfl
  exact ⟨_, ⟨B, _, d, zs, rfl, rfl, hc2, hr2, by rw [e1]; simp [val], by rw [blen_pow, hlen], by omega⟩, rfl, hb⟩

theorem dyR_up (s : Bool) (m e : Int) (h : 0 ≤ e) : rv s (2 ^ e.toNat * m) 1 = dyR s m e := by
  unfold dyR
  rw [show (max e 0).toNat = e.toNat by omega, show (max (-e) 0).toNat = 0 by omega]
  rfl
theorem dyR_half (s : Bool) (m e : Int) (h0 : -1074 ≤ e) (hm : m % 2 = 0) : dyR s (m / 2) (e + 1) = dyR s m e := by
  rw [dyR_over s (m / 2) (e + 1) (by omega), dyR_over s m e h0]
  congr 2
  rw [show (e + 1 + 1074).toNat = (e + 1074).toNat + 1 by omega, Int.pow_succ, Int.mul_comm ((2 : Int) ^ (e + 1074).toNat) 2, ← Int.mul_assoc]
  congr 1
  omega
theorem gcd_odd {m : Int} (h0 : 0 < m) (hm : m % 2 = 1) (k : Nat) : gcdI m (2 ^ k) = 1 := by
  obtain ⟨n, rfl⟩ := Int.eq_ofNat_of_zero_le (Int.le_of_lt h0)
  have hn : n % 2 = 1 := by omega
  have c : Nat.gcd n 2 = 1 := by rw [Nat.gcd_comm, Nat.gcd_rec, hn]; rfl
  have c2 : Nat.gcd n (2 ^ k) = 1 := Nat.Coprime.pow_right k c
  have e : ((2 : Int) ^ k).toNat = 2 ^ k := by
    rw [show (2 : Int) ^ k = ((2 ^ k : Nat) : Int) by simp]
    exact Int.toNat_natCast _
  unfold gcdI
  first
    | (rw [e, Int.toNat_natCast, c2]; rfl)
    | (simp [Int.natAbs_pow, c2])
theorem dyR_low (s : Bool) (m e : Int) (h0 : 0 < m) (hm : m % 2 = 1) (he : e < 0) : rs (dyR s m e) = s ∧ rp (dyR s m e) = m ∧ rq (dyR s m e) = 2 ^ (-e).toNat := by
  unfold dyR
  rw [show (max e 0).toNat = 0 by omega, show (max (-e) 0).toNat = (-e).toNat by omega, Int.pow_zero, Int.one_mul, Int.mul_one]
  obtain ⟨a, b, c⟩ := low_of (s := s) (p := m) (q := 2 ^ (-e).toNat) h0 (pow_pos' _)
  rw [gcd_odd h0 hm, Int.ediv_one] at b
  rw [gcd_odd h0 hm, Int.ediv_one] at c
  exact ⟨a, b, c⟩
theorem fX_pos {f : Int} (h : fY f < 0) : 0 < fX f := by
  have mb := frac_bd (f := f)
  by_cases h2 : fC f = 2
  · have := fXY_norm h2; omega
  · by_cases h1 : fC f = 1
    · have e := fXY_sub h1
      have : fM f ≠ 0 := by
        intro k
        unfold fC at h1
        rw [if_pos k] at h1
        split at h1
        · omega
        · split at h1 <;> omega
      omega
    · have := fXY_else h1 h2; omega

end Go.Proofs.YtdjhpplcdkgfgaaDoor
