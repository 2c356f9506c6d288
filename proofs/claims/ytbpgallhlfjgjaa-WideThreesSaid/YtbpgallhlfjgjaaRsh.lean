/-
  Contracts of layer 1's shr and shl on rows of bits. Conditions: the row is shorter than 2^38.
-/
import Derived.Test.YtbpgallhlfjgjaaRmul
import Derived.Test.YtbpgallhlfjgjaaStep
namespace Go.Proofs.Ytbpgallhlfjgjaa
open Go.RowKit

theorem blen_pos {v : Int} (h : 0 ≤ v) : decide (0 < blen v) = decide (v ≠ 0) := by
  obtain ⟨k, e, lt, ge, z⟩ := blen_spec h
  rw [e, Bool.eq_iff_iff, decide_eq_true_eq, decide_eq_true_eq]
  constructor
  · intro hk hv
    have := z hv
    omega
  · intro hv
    have := (ge (by omega)).2
    omega

/-- What shr hands back. -/
def IsShr (k : Nat) (xs zs : List Bool) (b : Bool) : Prop := val zs = val xs / 2 ^ k ∧ zs.length = xs.length - k ∧ b = decide (val xs % 2 ^ k ≠ 0)

set_option maxHeartbeats 3200000 in
theorem shrB_any (g off n c : Nat) (xs : List Bool) (N : Int) (w : World) (hn : xs.length = n) (hx : Rd w (some ⟨g, off, none⟩) xs) (hc : n ≤ c) (hcm : c ≤ maxLen) (ln : n ≤ 274877906944) (h0 : 0 < n) (hN : -9223372036854775808 ≤ N ∧ N ≤ 9223372036854775807) :
    Calls Try.prog 30 #[.slice (some ⟨g, off, none⟩) n c, .int .i64 N] w (RetRowB (IsShr (min N.toNat n) xs) w) := by
  have HN := Lib.hid hn
  unfold maxLen at hcm
  clear hn
  obtain ⟨k, hk⟩ : ∃ k : Nat, min (max N 0) (n : Int) = (k : Int) := ⟨(min (max N 0) (n : Int)).toNat, by omega⟩
  have hk2 : min N.toNat n = k := by omega
  have hkn : k ≤ n := by omega
  rw [hk2]
  clear hk2
  have V := val_nonneg (xs.take k)
  have dr := val_drop xs k (by have := HN.out; omega)
  have b1 : (k : Int) ≤ (n : Int) := by omega
  have b2 : (k : Int) ≤ (c : Int) := by omega
  have b3 : (0 : Int) ≤ (k : Int) := by omega
  have FB : Hid (decide (0 < blen (val (xs.take k))) = decide (val xs % 2 ^ k ≠ 0)) := by show _ = _; rw [blen_pos V, dr.2]
  have FV := Lib.hid dr.1
  have ht : (xs.take k).length = k := by rw [List.length_take, Nat.min_eq_left (by have := HN.out; omega)]
  have HT := Lib.hid ht
  have hd : (xs.drop k).length = n - k := by rw [List.length_drop, HN.out]
  have HD := Lib.hid hd
  clear V dr ht hd
  by_cases hck : c = k
  · subst hck
    have ekn : n = c := by omega
    subst ekn
    go_enter Try.func30, Try.ntmps30
    go_upto_region 2 with fail
    go_region_held3 (fun _ => True) (trivial)
      (first | (go_at_call 22; refine (rlen_any _ n n (xs.take n) _ HT.out (hx.take n).drew (by omega)).mono ?_; rintro e w1 ⟨rfl, rfl⟩))
    rw [FB.out]
    generalize hlost : decide (val xs % 2 ^ n ≠ 0) = lost at *
    have FL := Lib.hid hlost.symm
    clear hlost FB
    go_wp2_with fail
    go_ret2
    exact ⟨xs.drop n, lost, some ⟨g, off, none⟩, 0, ⟨FV.out, by rw [HD.out, HN.out], FL.out⟩, by rw [HD.out, Nat.sub_self]; rfl, by rw [HD.out]; omega, by simp [maxLen], .inl (List.drop_eq_nil_of_le (by rw [HN.out]; omega)), bel_drew (Below.refl _ _)⟩
  · have hck' : ¬ (c = k) := hck
    go_enter Try.func30, Try.ntmps30
    go_upto_region 2 with fail
    go_region_held3 (fun _ => True) (trivial)
      (first | (go_at_call 22; refine (rlen_any _ k c (xs.take k) _ HT.out (hx.take k).drew (by omega)).mono ?_; rintro e w1 ⟨rfl, rfl⟩))
    rw [FB.out]
    generalize hlost : decide (val xs % 2 ^ k ≠ 0) = lost at *
    have FL := Lib.hid hlost.symm
    clear hlost FB
    go_wp2_with fail
    go_ret2
    exact ⟨xs.drop k, lost, some ⟨g, off + k, none⟩, c - k, ⟨FV.out, by rw [HD.out, HN.out], FL.out⟩, by rw [HD.out]; rfl, by rw [HD.out]; omega, by unfold maxLen; omega, (hx.dropAt k).drew, bel_drew (Below.refl _ _)⟩

/-- What shl hands back: of the same length. -/
def IsShlB (k : Nat) (xs zs : List Bool) : Prop := val zs = val xs * 2 ^ k % 2 ^ xs.length ∧ zs.length = xs.length

theorem shlB_eq {k n : Nat} {xs zs : List Bool} (hn : xs.length = n) (hk : k ≤ n) (h : IsShl k (xs.take (n - k)) zs) : IsShlB k xs zs := by
  obtain ⟨hv, hl⟩ := h.val
  have dr := (val_drop xs (n - k) (by omega)).2
  refine ⟨?_, by rw [hl, List.length_take, Nat.min_eq_left (by omega)]; omega⟩
  rw [hv, dr, hn, show (2 : Int) ^ n = 2 ^ k * 2 ^ (n - k) by rw [← Int.pow_add, show k + (n - k) = n by omega], Int.mul_comm (val xs), Int.mul_emod_mul_of_pos _ _ (pow_pos' k)]

set_option maxHeartbeats 3200000 in
theorem shlB_any (g off n c : Nat) (xs : List Bool) (N : Int) (w : World) (hn : xs.length = n) (hx : Rd w (some ⟨g, off, none⟩) xs) (hc : n ≤ c) (ln : n ≤ 274877906944) (_h0 : 0 < n) (hN : -9223372036854775808 ≤ N ∧ N ≤ 9223372036854775807) :
    Calls Try.prog 33 #[.slice (some ⟨g, off, none⟩) n c, .int .i64 N] w (RetRow (IsShlB (min N.toNat n) xs) w) := by
  have HN := Lib.hid hn
  clear hn
  obtain ⟨k, hk⟩ : ∃ k : Nat, min (max N 0) (n : Int) = (k : Int) := ⟨(min (max N 0) (n : Int)).toNat, by omega⟩
  have hk2 : min N.toNat n = k := by omega
  have hkn : k ≤ n := by omega
  rw [hk2]
  clear hk2
  have b1 : (k : Int) ≤ (n : Int) := by omega
  have b2 : (n : Int) - (k : Int) ≤ (c : Int) := by omega
  have b3 : (0 : Int) ≤ (n : Int) - (k : Int) := by omega
  have e1 : ((n : Int) - (k : Int)).toNat = n - k := by omega
  have ht : (xs.take (n - k)).length = n - k := by rw [List.length_take, Nat.min_eq_left (by have := HN.out; omega)]
  have HT := Lib.hid ht
  clear ht
  go_enter Try.func33, Try.ntmps33
  go_wp2_with fail
  refine (rshl_any _ (n - k) c (xs.take (n - k)) (k : Int) _ HT.out (hx.take (n - k)) (by omega) (by omega) (by omega)).mono ?_
  rw [Int.toNat_natCast]
  rintro e w1 ⟨zs, A1, c1, hs, rfl, hc1, hm1, hr1, hb1⟩
  have fin := shlB_eq HN.out hkn hs
  clear hs e1
  go_wp2_with fail
  go_ret
  exact ⟨zs, A1, c1, fin, rfl, hc1, hm1, hr1, hb1⟩
end Go.Proofs.Ytbpgallhlfjgjaa
