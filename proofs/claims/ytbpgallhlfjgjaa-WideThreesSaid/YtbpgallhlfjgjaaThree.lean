/-
  Contracts of U128's widen and Len and of U192's low, Len, Add and Sub, for all words. Conditions: the fields are words of 64 bits.
-/
import Derived.Test.YtbpgallhlfjgjaaCmp
namespace Go.Proofs.Ytbpgallhlfjgjaa
open Go.RowKit

theorem widen_any (h l : Int) (w : World) : Calls Try.prog 52 #[.agg #[.int .u64 h, .int .u64 l]] w fun e w' => e = .returned (.agg #[.int .u64 0, .int .u64 h, .int .u64 l]) ∧ Below w.heap.size w w' := by
  go_enter Try.func52, Try.ntmps52
  go_wp2
  refine bodyPost_ret (by simp [results, Try.results52, go_sem]) rfl ⟨rfl, ?_⟩
  exact bel_alloc (bel_alloc (Below.refl _ _) _) _
theorem low_any (h m l : Int) (w : World) : Calls Try.prog 53 #[.agg #[.int .u64 h, .int .u64 m, .int .u64 l]] w fun e w' => e = .returned (.agg #[.int .u64 m, .int .u64 l]) ∧ Below w.heap.size w w' := by
  go_enter Try.func53, Try.ntmps53
  go_wp2
  refine bodyPost_ret (by simp [results, Try.results53, go_sem]) rfl ⟨rfl, ?_⟩
  exact bel_alloc (bel_alloc (Below.refl _ _) _) _

theorem aux_bitLen : ∀ (f x : Nat), x < 2 ^ f → Lib.bitLenAux f x = Go.bitLen x
  | 0, x, h => by
    have : x = 0 := by simpa using h
    subst this
    rfl
  | f + 1, x, h => by
    simp only [Lib.bitLenAux]
    by_cases hx : x = 0
    · subst hx; rfl
    · rw [if_neg hx, aux_bitLen f (x / 2) (by rw [Nat.pow_succ] at h; omega)]
      by_cases h1 : x < 2
      · have : x = 1 := by omega
        subst this
        rfl
      · have := bitLen_shift x 1 (by omega)
        rw [this]
theorem lib_bitLen (x : Nat) (h : x < 18446744073709551616) : Lib.bitLen x = Go.bitLen x := aux_bitLen 64 x h

/-- The number of bits of a number of words. -/
def blen (n : Int) : Int := (Go.bitLen n.toNat : Nat)
theorem blen_word {x : Int} (h : Word x) : ((Lib.bitLen x.toNat : Nat) : Int) = blen x := by
  unfold blen
  rw [lib_bitLen x.toNat (by have := h.1; have := h.2; omega)]
theorem blen_hi {h l b : Int} {k : Nat} (hh : 0 < h) (hb : (2 : Int) ^ k = b) (h0 : 0 ≤ l) (h1 : l < b) : blen (h * b + l) = k + blen h := by
  obtain ⟨H, rfl⟩ := Int.eq_ofNat_of_zero_le (Int.le_of_lt hh)
  obtain ⟨L, rfl⟩ := Int.eq_ofNat_of_zero_le h0
  have hb' : b = ((2 ^ k : Nat) : Int) := by rw [← hb]; simp
  subst hb'
  have e : ((H : Int) * ((2 ^ k : Nat) : Int) + (L : Int)).toNat = H * 2 ^ k + L := by
    rw [← Int.natCast_mul, ← Int.natCast_add]
    exact Int.toNat_natCast _
  have hp : 0 < 2 ^ k := Nat.two_pow_pos k
  have q : (H * 2 ^ k + L) / 2 ^ k = H := by
    rw [Nat.add_comm, Nat.add_mul_div_right _ _ hp, Nat.div_eq_of_lt (by omega)]
    omega
  unfold blen
  rw [e, bitLen_shift (H * 2 ^ k + L) k (by rw [q]; omega), q]
  simp
theorem blen_word_le {x : Int} (h : Word x) : 0 ≤ blen x ∧ blen x ≤ 64 := by
  refine ⟨by unfold blen; omega, ?_⟩
  obtain ⟨h0, h1⟩ := h
  unfold blen Go.bitLen
  split
  · omega
  · rename_i hx
    have := (Nat.log2_lt hx).2 (show x.toNat < 2 ^ 64 by omega)
    omega

theorem len2 (h l : Int) (h1 : Word h) (h2 : Word l) (w : World) :
    Calls Try.prog 21 #[.agg #[.int .u64 h, .int .u64 l]] w fun e w' => e = .returned (.int .i64 (blen (V2 h l))) ∧ Below w.heap.size w w' := by
  by_cases h0 : h = 0
  · subst h0
    have F : Hid (((Lib.bitLen l.toNat : Nat) : Int) = blen (V2 0 l)) := by
      show _ = _
      rw [blen_word h2]
      simp [V2]
    go_enter Try.func21, Try.ntmps21
    go_wp2_with (go_at_call 49; refine (len64 l h2 _).mono ?_; rintro e w1 ⟨rfl, rfl⟩)
    go_ret
    exact ⟨ret_int F.out, bel_alloc (Below.refl _ _) _⟩
  · have t0 : (h != 0) = true := by simp [h0]
    have F : Hid (64 + ((Lib.bitLen h.toNat : Nat) : Int) = blen (V2 h l)) := by
      show _ = _
      rw [blen_word h1]
      unfold V2
      rw [blen_hi (k := 64) (by have := h1.1; omega) (by decide) h2.1 h2.2]
      rfl
    have b1 := blen_word_le h1
    have b2 : ((Lib.bitLen h.toNat : Nat) : Int) ≤ 64 := by rw [blen_word h1]; exact b1.2
    clear h0 b1
    go_enter Try.func21, Try.ntmps21
    go_wp2_with (go_at_call 49; refine (len64 h h1 _).mono ?_; rintro e w1 ⟨rfl, rfl⟩)
    go_ret
    exact ⟨ret_int F.out, bel_alloc (Below.refl _ _) _⟩

theorem len3 (h m l : Int) (h1 : Word h) (h3 : Word m) (h2 : Word l) (w : World) :
    Calls Try.prog 44 #[.agg #[.int .u64 h, .int .u64 m, .int .u64 l]] w fun e w' => e = .returned (.int .i64 (blen (V3 h m l))) ∧ Below w.heap.size w w' := by
  by_cases h0 : h = 0
  · subst h0
    have F : Hid (blen (V2 m l) = blen (V3 0 m l)) := by
      show _ = _
      simp [V2, V3]
    go_enter Try.func44, Try.ntmps44
    go_wp2_with fail
    refine (low_any _ _ _ _).mono ?_
    rintro e w1 ⟨rfl, hb⟩
    go_wp2_with fail
    refine (len2 _ _ h3 h2 _).mono ?_
    rintro e w2 ⟨rfl, hb2⟩
    go_wp2
    go_ret
    exact ⟨ret_int F.out, bel_trans (bel_trans (bel_alloc (Below.refl _ _) _) hb) hb2⟩
  · have t0 : (h != 0) = true := by simp [h0]
    have F : Hid (128 + ((Lib.bitLen h.toNat : Nat) : Int) = blen (V3 h m l)) := by
      show _ = _
      obtain ⟨_, _⟩ := h2
      obtain ⟨_, _⟩ := h3
      rw [blen_word h1]
      unfold V3
      rw [Int.add_assoc, blen_hi (k := 128) (by have := h1.1; omega) (by decide) (by omega) (by omega)]
      rfl
    have b1 := blen_word_le h1
    have b2 : ((Lib.bitLen h.toNat : Nat) : Int) ≤ 64 := by rw [blen_word h1]; exact b1.2
    clear h0 b1
    go_enter Try.func44, Try.ntmps44
    go_wp2_with (go_at_call 49; refine (len64 h h1 _).mono ?_; rintro e w1 ⟨rfl, rfl⟩)
    go_ret
    exact ⟨ret_int F.out, bel_alloc (Below.refl _ _) _⟩

def IsAdd3 (a b : Int) (v : Value) : Prop := ∃ h m l c : Int, Word h ∧ Word m ∧ Word l ∧ 0 ≤ c ∧ c ≤ 1 ∧ V3 h m l + c * 6277101735386680763835789423207666416102355444464034512896 = a + b ∧ v = .tuple #[.agg #[.int .u64 h, .int .u64 m, .int .u64 l], .int .u64 c]
def IsSub3 (a b : Int) (v : Value) : Prop := ∃ h m l c : Int, Word h ∧ Word m ∧ Word l ∧ 0 ≤ c ∧ c ≤ 1 ∧ V3 h m l - c * 6277101735386680763835789423207666416102355444464034512896 = a - b ∧ v = .tuple #[.agg #[.int .u64 h, .int .u64 m, .int .u64 l], .int .u64 c]

theorem add3_eq {ah am al bh bm bl : Int} (h1 : Word ah) (h5 : Word am) (h2 : Word al) (h3 : Word bh) (h6 : Word bm) (h4 : Word bl) :
    IsAdd3 (V3 ah am al) (V3 bh bm bl) (.tuple #[.agg #[.int .u64 (lowOf (ah + bh + carry (am + bm + carry (al + bl)))), .int .u64 (lowOf (am + bm + carry (al + bl))), .int .u64 (lowOf (al + bl))], .int .u64 (carry (ah + bh + carry (am + bm + carry (al + bl))))]) := by
  have k0 : 0 ≤ carry (al + bl) := by have := carry_ge h2 h4 (Int.le_refl 0); rwa [Int.add_zero] at this
  have k1 : carry (al + bl) ≤ 1 := by have := carry_le h2 h4 (Int.le_refl 0) (by decide); rwa [Int.add_zero] at this
  have k2 := carry_ge h5 h6 k0
  have k3 := carry_le h5 h6 k0 k1
  refine ⟨_, _, _, _, word_lowOf _, word_lowOf _, word_lowOf _, carry_ge h1 h3 k2, carry_le h1 h3 k2 k3, ?_, rfl⟩
  have e1 := carry_low (al + bl)
  have e2 := carry_low (am + bm + carry (al + bl))
  have e3 := carry_low (ah + bh + carry (am + bm + carry (al + bl)))
  generalize carry (ah + bh + carry (am + bm + carry (al + bl))) = c3 at *
  generalize lowOf (ah + bh + carry (am + bm + carry (al + bl))) = l3 at *
  generalize carry (am + bm + carry (al + bl)) = c2 at *
  generalize lowOf (am + bm + carry (al + bl)) = l2 at *
  unfold V3
  omega
theorem sub3_eq {ah am al bh bm bl : Int} (h1 : Word ah) (h5 : Word am) (h2 : Word al) (h3 : Word bh) (h6 : Word bm) (h4 : Word bl) :
    IsSub3 (V3 ah am al) (V3 bh bm bl) (.tuple #[.agg #[.int .u64 (lowOf (ah - (bh + bor am (bm + bor al bl)))), .int .u64 (lowOf (am - (bm + bor al bl))), .int .u64 (lowOf (al - bl))], .int .u64 (bor ah (bh + bor am (bm + bor al bl)))]) := by
  have k0 := bor_ge al bl
  have k1 := bor_le al bl
  have k2 := bor_ge am (bm + bor al bl)
  have k3 := bor_le am (bm + bor al bl)
  refine ⟨_, _, _, _, word_lowOf _, word_lowOf _, word_lowOf _, bor_ge _ _, bor_le _ _, ?_, rfl⟩
  have e1 := bor_low h2 h4.1 (by have := h4.2; omega)
  have e2 := bor_low h5 (y := bm + bor al bl) (by have := h6.1; omega) (by have := h6.2; omega)
  have e3 := bor_low h1 (y := bh + bor am (bm + bor al bl)) (by have := h3.1; omega) (by have := h3.2; omega)
  rw [e1, e2, e3]
  generalize bor ah (bh + bor am (bm + bor al bl)) = c3 at *
  generalize bor am (bm + bor al bl) = c2 at *
  generalize bor al bl = c1 at *
  unfold V3
  omega

theorem add3 (ah am al bh bm bl : Int) (h1 : Word ah) (h5 : Word am) (h2 : Word al) (h3 : Word bh) (h6 : Word bm) (h4 : Word bl) (w : World) :
    Calls Try.prog 40 #[.agg #[.int .u64 ah, .int .u64 am, .int .u64 al], .agg #[.int .u64 bh, .int .u64 bm, .int .u64 bl]] w (Ret (IsAdd3 (V3 ah am al) (V3 bh bm bl)) w) := by
  have k0 : 0 ≤ carry (al + bl) := by have := carry_ge h2 h4 (Int.le_refl 0); rwa [Int.add_zero] at this
  have k1 : carry (al + bl) ≤ 1 := by have := carry_le h2 h4 (Int.le_refl 0) (by decide); rwa [Int.add_zero] at this
  have k2 := carry_ge h5 h6 k0
  have k3 := carry_le h5 h6 k0 k1
  have fin := add3_eq h1 h5 h2 h3 h6 h4
  have A0 : ∀ w, (callFunc 45 #[.int .u64 al, .int .u64 bl, .int .u64 0]).run Try.prog w = .ok (.value (.tuple #[.int .u64 (lowOf (al + bl)), .int .u64 (carry (al + bl))])) w := fun w => by
    have := add64w al bl 0 h2 h4 (Int.le_refl 0) (by decide) w
    rwa [Int.add_zero] at this
  have A1 := add64w am bm _ h5 h6 k0 k1
  have A2 := add64w ah bh _ h1 h3 k2 k3
  go_enter Try.func40, Try.ntmps40
  go_wp2_with (first | simp only [A0] | simp only [A1] | simp only [A2])
  refine bodyPost_ret (by simp [results, Try.results40, go_sem]) rfl ⟨_, fin, rfl, ?_⟩
  exact bel_alloc (bel_alloc (bel_alloc (Below.refl _ _) _) _) _

theorem sub3 (ah am al bh bm bl : Int) (h1 : Word ah) (h5 : Word am) (h2 : Word al) (h3 : Word bh) (h6 : Word bm) (h4 : Word bl) (w : World) :
    Calls Try.prog 41 #[.agg #[.int .u64 ah, .int .u64 am, .int .u64 al], .agg #[.int .u64 bh, .int .u64 bm, .int .u64 bl]] w (Ret (IsSub3 (V3 ah am al) (V3 bh bm bl)) w) := by
  have k0 := bor_ge al bl
  have k1 := bor_le al bl
  have k2 := bor_ge am (bm + bor al bl)
  have k3 := bor_le am (bm + bor al bl)
  have fin := sub3_eq h1 h5 h2 h3 h6 h4
  have A0 : ∀ w, (callFunc 46 #[.int .u64 al, .int .u64 bl, .int .u64 0]).run Try.prog w = .ok (.value (.tuple #[.int .u64 (lowOf (al - bl)), .int .u64 (bor al bl)])) w := fun w => by
    have := sub64w al bl 0 h2 h4 (Int.le_refl 0) (by decide) w
    rwa [Int.add_zero] at this
  have A1 := sub64w am bm _ h5 h6 k0 k1
  have A2 := sub64w ah bh _ h1 h3 k2 k3
  go_enter Try.func41, Try.ntmps41
  go_wp2_with (first | simp only [A0] | simp only [A1] | simp only [A2])
  refine bodyPost_ret (by simp [results, Try.results41, go_sem]) rfl ⟨_, fin, rfl, ?_⟩
  exact bel_alloc (bel_alloc (bel_alloc (Below.refl _ _) _) _) _
end Go.Proofs.Ytbpgallhlfjgjaa
