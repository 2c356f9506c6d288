/-
  The contract of layer 4's Value. Conditions: the float is a word; the table of math/bits stands in its variable.
  What a float's number is, and that numbers are ordered as floats are. Conditions: floats are words, and finite.
  The contract of the reference's Value: the number that a finite float is, in lowest terms. Conditions: the float is a word, and finite.
-/
import Derived.Test.YtgjgcehoakacoaaGreatDoorMPa
import Derived.Test.YtgjgcehoakacoaaGreatDoorMRb
import Derived.Test.YtgjgcehoakacoaaGreatDoorMRc
namespace Go.Proofs.YtgjgcehoakacoaaGreatDoor
open Go.RowKit
set_option maxRecDepth 100000

/-- The number that a finite float is. -/
def fV (f : Int) : Rat := dyR (fS f) (fX f) (fY f)
theorem fX_word (f : Int) : Word (fX f) := by
  have := frac_bd (f := f)
  unfold fX Word
  split
  · omega
  · split <;> omega
theorem fY_bd (f : Int) : -1074 ≤ fY f ∧ fY f ≤ 972 := by
  have := exp_bd (f := f)
  unfold fY
  split
  · rename_i h
    have : fE f ≠ 0 := by
      intro k
      unfold fC at h
      rw [if_neg (by omega), if_pos k] at h
      split at h <;> omega
    omega
  · split <;> omega
/-- A fraction and a yes. -/
def RetRB (r : Rat) (L : Nat) (w : World) (e : Ending) (w' : World) : Prop := ∃ x y z, RC w' x y z L r ∧ e = .returned (.tuple #[.agg #[x, y, z], .bool true]) ∧ Below w.heap.size w w'
end Go.Proofs.YtgjgcehoakacoaaGreatDoor
namespace Go.Proofs.YtgjgcehoakacoaaGreatDoor
open Go.RowKit
set_option maxRecDepth 100000

/-- 2^1074 times a float's magnitude, by its place in the order. -/
def gZ (e m : Int) : Int := if e = 0 then m else (4503599627370496 + m) * 2 ^ (e - 1).toNat
theorem gZ_lt {e m : Int} (h0 : 0 ≤ e) (m0 : 0 ≤ m) (m1 : m < 4503599627370496) : 0 ≤ gZ e m ∧ gZ e m < 2 ^ (52 + e.toNat) := by
  unfold gZ
  have e52 : (2 : Int) ^ 52 = 4503599627370496 := by decide
  by_cases h : e = 0
  · subst h
    rw [if_pos rfl]
    refine ⟨m0, ?_⟩
    rw [show 52 + (0 : Int).toNat = 52 from rfl, e52]
    exact m1
  · rw [if_neg h]
    have hp := pow_pos' (e - 1).toNat
    refine ⟨Int.mul_nonneg (by omega) (by omega), ?_⟩
    rw [show 52 + e.toNat = 53 + (e - 1).toNat by omega, Int.pow_add]
    exact Int.mul_lt_mul_of_pos_right (by rw [show (2 : Int) ^ 53 = 9007199254740992 by decide]; omega) hp
theorem gZ_ge {e m : Int} (h0 : 0 < e) (m0 : 0 ≤ m) : 2 ^ (52 + (e - 1).toNat) ≤ gZ e m := by
  unfold gZ
  rw [if_neg (by omega), Int.pow_add, show (2 : Int) ^ 52 = 4503599627370496 by decide]
  exact Int.mul_le_mul_of_nonneg_right (by omega) (Int.le_of_lt (pow_pos' _))
theorem gZ_mono {e m e' m' : Int} (h0 : 0 ≤ e) (m0 : 0 ≤ m) (m1 : m < 4503599627370496) (h0' : 0 ≤ e') (m0' : 0 ≤ m') (m1' : m' < 4503599627370496) (h : e * 4503599627370496 + m < e' * 4503599627370496 + m') : gZ e m < gZ e' m' := by
  by_cases he : e = e'
  · subst he
    unfold gZ
    split
    · omega
    · exact Int.mul_lt_mul_of_pos_right (by omega) (pow_pos' _)
  · have hlt : e < e' := by omega
    have a := (gZ_lt h0 m0 m1).2
    have b := gZ_ge (e := e') (m := m') (by omega) m0'
    have c := pow_mono (52 + e.toNat) (52 + (e' - 1).toNat) (by omega)
    omega
/-- 2^1074 times a finite float. -/
def fZ (f : Int) : Int := sv (fS f) (gZ (fE f) (fM f))
theorem fK_sv {f : Int} (hf : Word f) : fK f = sv (fS f) (fE f * 4503599627370496 + fM f) := by
  rw [low63 hf]
  rfl
theorem gZ_zero {e m : Int} (h0 : 0 ≤ e) (m0 : 0 ≤ m) : gZ e m = 0 ↔ e * 4503599627370496 + m = 0 := by
  unfold gZ
  split
  · rename_i h; subst h; omega
  · have := pow_pos' (e - 1).toNat
    constructor
    · intro h
      rcases Int.mul_eq_zero.1 h with h | h <;> omega
    · intro h
      omega
theorem fZ_cmp {a b : Int} (ha : Word a) (hb : Word b) : cmpI (fZ a) (fZ b) = cmpI (fK a) (fK b) := by
  have ea := exp_bd (f := a)
  have eb := exp_bd (f := b)
  have ma := frac_bd (f := a)
  have mb := frac_bd (f := b)
  rw [fK_sv ha, fK_sv hb]
  unfold fZ
  have la := gZ_lt ea.1 ma.1 ma.2
  have lb := gZ_lt eb.1 mb.1 mb.2
  have z1 := gZ_zero ea.1 ma.1
  have z2 := gZ_zero eb.1 mb.1
  have m1 := gZ_mono ea.1 ma.1 ma.2 eb.1 mb.1 mb.2
  have m2 := gZ_mono eb.1 mb.1 mb.2 ea.1 ma.1 ma.2
  have m3 : fE a * 4503599627370496 + fM a = fE b * 4503599627370496 + fM b → gZ (fE a) (fM a) = gZ (fE b) (fM b) := fun h => by
    have : fE a = fE b := by omega
    have : fM a = fM b := by omega
    simp [*]
  have n1 : 0 ≤ fE a * 4503599627370496 + fM a := by omega
  have n2 : 0 ≤ fE b * 4503599627370496 + fM b := by omega
  have p1 := la.1
  have p2 := lb.1
  clear la lb
  generalize gZ (fE a) (fM a) = x at *
  generalize gZ (fE b) (fM b) = y at *
  generalize fE a * 4503599627370496 + fM a = k at *
  generalize fE b * 4503599627370496 + fM b = l at *
  unfold cmpI
  rcases Int.lt_trichotomy k l with h | h | h
  · have := m1 h
    cases fS a <;> cases fS b <;> simp only [sv, if_true, Bool.false_eq_true, if_false] <;> (repeat' split) <;> omega
  · have := m3 h
    cases fS a <;> cases fS b <;> simp only [sv, if_true, Bool.false_eq_true, if_false] <;> (repeat' split) <;> omega
  · have := m2 h
    cases fS a <;> cases fS b <;> simp only [sv, if_true, Bool.false_eq_true, if_false] <;> (repeat' split) <;> omega
theorem sv_mul (s : Bool) (p c : Int) : sv s (p * c) = sv s p * c := by cases s <;> simp [sv, Int.neg_mul]
/-- A power of two, as it stands. -/
def dB (n : Nat) : Nat := 2 ^ n
theorem dB_ne (n : Nat) : dB n ≠ 0 := by unfold dB; exact Nat.ne_of_gt (Nat.pow_pos (by decide))
theorem dB_add {a b n : Nat} (h : n = a + b) : dB n = 2 ^ a * dB b := by subst h; exact Nat.pow_add 2 a b
theorem dB_int (n : Nat) : ((dB n : Nat) : Int) = 2 ^ n := by unfold dB; simp
/-- m * 2^e as a fraction over 2^1074. -/
theorem dyR_over (s : Bool) (m e : Int) (h0 : -1074 ≤ e) : dyR s m e = mkRat (sv s (m * 2 ^ (e + 1074).toNat)) (dB 1074) := by
  unfold dyR rv
  have hd : ((2 : Int) ^ (max (-e) 0).toNat * 1).toNat = 2 ^ (max (-e) 0).toNat := by
    rw [Int.mul_one, show (2 : Int) ^ (max (-e) 0).toNat = ((2 ^ (max (-e) 0).toNat : Nat) : Int) by simp]
    exact Int.toNat_natCast _
  rw [hd]
  obtain ⟨c, hc⟩ : ∃ c : Nat, c = 1074 - (max (-e) 0).toNat := ⟨_, rfl⟩
  have e1 : dB 1074 = 2 ^ (max (-e) 0).toNat * dB c := dB_add (by omega)
  have e2 : m * (2 : Int) ^ (e + 1074).toNat = 2 ^ (max e 0).toNat * m * ((dB c : Nat) : Int) := by
    rw [dB_int, show (e + 1074).toNat = (max e 0).toNat + c by omega, Int.pow_add, Int.mul_comm ((2 : Int) ^ (max e 0).toNat) m, Int.mul_assoc]
  rw [e1, e2, sv_mul s _ ((dB c : Nat) : Int)]
  exact (Rat.mkRat_mul_right (dB_ne c)).symm
theorem fV_over {f : Int} (hc : fC f < 3) : fV f = mkRat (fZ f) (dB 1074) := by
  have eb := exp_bd (f := f)
  unfold fV fZ
  rw [dyR_over _ _ _ (fY_bd f).1]
  congr 2
  by_cases h1 : fE f = 2047
  · have : ¬ fC f < 3 := by unfold fC; rw [if_pos h1]; split <;> omega
    exact absurd hc this
  · by_cases h2 : fE f = 0
    · by_cases h3 : fM f = 0
      · have c := fC_zero h2 h3
        obtain ⟨x, y⟩ := fXY_else (f := f) (by omega) (by omega)
        rw [← x, ← y, h2, h3, Int.zero_mul]
        exact (if_pos rfl).symm
      · have c := fC_sub h2 h3
        obtain ⟨x, y⟩ := fXY_sub c
        rw [← x, ← y, h2, show (-1074 + 1074 : Int).toNat = 0 from rfl, Int.pow_zero, Int.mul_one]
        exact (if_pos rfl).symm
    · have c := fC_norm h1 h2
      obtain ⟨x, y⟩ := fXY_norm c
      rw [← x, ← y]
      unfold gZ
      rw [if_neg h2, show fE f - 1075 + 1074 = fE f - 1 by omega]
theorem cmp_over {a b : Int} {d : Nat} (hd : d ≠ 0) : cmpR (mkRat a d) (mkRat b d) = cmpI a b := by
  have hp : (0 : Int) < (d : Int) := by omega
  have e : ∀ n : Int, mkRat n d = rv false n (d : Int) := fun n => by simp [rv, sv]
  rw [e a, e b, cmp_rv hp hp]
  simp only [sv, Bool.false_eq_true, if_false]
  rw [← Int.sub_mul, Int.sign_mul, Int.sign_eq_one_of_pos hp, Int.mul_one]
  unfold cmpI
  rcases Int.lt_trichotomy a b with h | h | h
  · rw [if_pos h, Int.sign_eq_neg_one_of_neg (by omega)]
  · subst h; simp
  · rw [if_neg (by omega), if_pos h, Int.sign_eq_one_of_pos (by omega)]
theorem fin_ok {f : Int} (h : fC f < 3) : fC f ≠ 4 := by omega
theorem fV_cmp {a b : Int} (ha : Word a) (hb : Word b) (h1 : fC a < 3) (h2 : fC b < 3) : cmpR (fV a) (fV b) = fCmp a b := by
  rw [fV_over h1, fV_over h2, cmp_over (dB_ne _), fZ_cmp ha hb, (fOk_yes (fin_ok h1) (fin_ok h2)).2]
end Go.Proofs.YtgjgcehoakacoaaGreatDoor
namespace Go.Proofs.YtgjgcehoakacoaaGreatDoor
open Go.RowKit
set_option maxRecDepth 100000

theorem rdw_one (W : World) (t : TypeId) (d : Int) : RdW (W.alloc (.cells #[.int .u64 d] t)) (some ⟨W.heap.size, 0, none⟩) [d] := by
  refine .inr ⟨_, 0, rfl, by simp, fun j v hj => ?_⟩
  rcases j with _ | j
  · simp at hj; subst hj; simp [go_sem]
  · simp at hj
theorem row_one (W : World) : Rd (W.alloc (.cells #[.bool true] 4)) (some ⟨W.heap.size, 0, none⟩) [true] := by
  refine .inr ⟨_, 0, rfl, (Blk.new W 4 #[.bool true]).typed, fun i b hi => ?_⟩
  rcases i with _ | i
  · simp at hi
    subst hi
    simp [go_sem]
  · simp at hi
theorem blen_pow (k : Nat) : blen (2 ^ k) = ((k + 1 : Nat) : Int) := by
  refine blen_eq (by omega) (by rw [Nat.add_sub_cancel]; exact Int.le_refl _) ?_
  rw [Int.pow_succ]
  have := pow_pos' k
  omega
theorem dyR_up (s : Bool) (m e : Int) (h : 0 ≤ e) : rv s (2 ^ e.toNat * m) 1 = dyR s m e := by
  unfold dyR
  rw [show (max e 0).toNat = e.toNat by omega, show (max (-e) 0).toNat = 0 by omega]
  rfl
theorem dyR_half (s : Bool) (m e : Int) (h0 : -1074 ≤ e) (hm : m % 2 = 0) : dyR s (m / 2) (e + 1) = dyR s m e := by
  rw [dyR_over s (m / 2) (e + 1) (by omega), dyR_over s m e h0]
  congr 2
  rw [show (e + 1 + 1074).toNat = (e + 1074).toNat + 1 by omega, Int.pow_succ, Int.mul_comm ((2 : Int) ^ (e + 1074).toNat) 2, ← Int.mul_assoc]
  congr 1
  omega
theorem gcd_odd {m : Int} (h0 : 0 < m) (hm : m % 2 = 1) (k : Nat) : gcdI m (2 ^ k) = 1 := by
  obtain ⟨n, rfl⟩ := Int.eq_ofNat_of_zero_le (Int.le_of_lt h0)
  have hn : n % 2 = 1 := by omega
  have c : Nat.gcd n 2 = 1 := by rw [Nat.gcd_comm, Nat.gcd_rec, hn]; rfl
  have c2 : Nat.gcd n (2 ^ k) = 1 := Nat.Coprime.pow_right k c
  have e : ((2 : Int) ^ k).toNat = 2 ^ k := by
    rw [show (2 : Int) ^ k = ((2 ^ k : Nat) : Int) by simp]
    exact Int.toNat_natCast _
  unfold gcdI
  first
    | (rw [e, Int.toNat_natCast, c2]; rfl)
    | (simp [Int.natAbs_pow, c2])
theorem dyR_low (s : Bool) (m e : Int) (h0 : 0 < m) (hm : m % 2 = 1) (he : e < 0) : rs (dyR s m e) = s ∧ rp (dyR s m e) = m ∧ rq (dyR s m e) = 2 ^ (-e).toNat := by
  unfold dyR
  rw [show (max e 0).toNat = 0 by omega, show (max (-e) 0).toNat = (-e).toNat by omega, Int.pow_zero, Int.one_mul, Int.mul_one]
  obtain ⟨a, b, c⟩ := low_of (s := s) (p := m) (q := 2 ^ (-e).toNat) h0 (pow_pos' _)
  rw [gcd_odd h0 hm, Int.ediv_one] at b
  rw [gcd_odd h0 hm, Int.ediv_one] at c
  exact ⟨a, b, c⟩
theorem fX_pos {f : Int} (h : fY f < 0) : 0 < fX f := by
  have mb := frac_bd (f := f)
  by_cases h2 : fC f = 2
  · have := fXY_norm h2; omega
  · by_cases h1 : fC f = 1
    · have e := fXY_sub h1
      have : fM f ≠ 0 := by
        intro k
        unfold fC at h1
        rw [if_pos k] at h1
        split at h1
        · omega
        · split at h1 <;> omega
      omega
    · have := fXY_else h1 h2; omega

end Go.Proofs.YtgjgcehoakacoaaGreatDoor
