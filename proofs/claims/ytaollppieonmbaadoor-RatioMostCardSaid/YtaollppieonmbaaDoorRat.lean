/-
  Rational numbers of a sign and two naturals: what they are in lowest terms, their sums, products, quotients, signs, and how they compare. No function of the program.
-/
import Derived.Test.YtaollppieonmbaaDoorQmore
namespace Go.Proofs.YtaollppieonmbaaDoor
open Go.RowKit

/-- A number with its sign. -/
def sv (s : Bool) (p : Int) : Int := if s then -p else p
/-- The rational number of a sign and two naturals; over nought it is nought. -/
def rv (s : Bool) (p q : Int) : Rat := mkRat (sv s p) q.toNat
theorem sv_not (s : Bool) (p : Int) : sv (!s) p = -sv s p := by cases s <;> simp [sv]
theorem sv_abs {s : Bool} {p : Int} (h : 0 ≤ p) : (sv s p).natAbs = p.toNat := by cases s <;> simp [sv] <;> omega
theorem sv_sgn {s : Bool} {p : Int} (h : 0 < p) : decide (sv s p < 0) = s := by
  cases s <;> simp [sv] <;> omega
theorem rv_zero {s : Bool} {p q : Int} (h : p = 0 ∨ q = 0) : rv s p q = 0 := by
  unfold rv
  rcases h with h | h
  · subst h
    cases s <;> simp [sv]
  · subst h
    simp
theorem rv_not (s : Bool) (p q : Int) : rv (!s) p q = -rv s p q := by
  unfold rv
  rw [sv_not, Rat.neg_mkRat]
theorem sv_div {s : Bool} {p g : Int} (h : g ∣ p) : sv s p / g = sv s (p / g) := by
  cases s
  · rfl
  · simp only [sv, if_true]
    exact Int.neg_ediv_of_dvd h
theorem rv_num {s : Bool} {p q : Int} (hp : 0 < p) (hq : 0 < q) : (rv s p q).num = sv s (p / gcdI p q) ∧ ((rv s p q).den : Int) = q / gcdI p q := by
  obtain ⟨a, rfl⟩ := Int.eq_ofNat_of_zero_le (Int.le_of_lt hp)
  obtain ⟨b, rfl⟩ := Int.eq_ofNat_of_zero_le (Int.le_of_lt hq)
  have hb : b ≠ 0 := by omega
  unfold rv
  rw [Rat.num_mkRat, Rat.den_mkRat, sv_abs (Int.le_of_lt hp)]
  simp only [Int.toNat_natCast, if_neg hb]
  have e : gcdI (a : Int) (b : Int) = ((Nat.gcd b a : Nat) : Int) := by unfold gcdI; rw [Int.toNat_natCast, Int.toNat_natCast, Nat.gcd_comm]
  rw [e]
  refine ⟨?_, by rw [Int.natCast_ediv]⟩
  exact sv_div (Int.natCast_dvd_natCast.2 (Nat.gcd_dvd_right b a))
theorem gcd_pos {p q : Int} (hp : 0 < p) : 0 < gcdI p q := by
  unfold gcdI
  have := Nat.gcd_pos_of_pos_left (n := q.toNat) (m := p.toNat) (by omega)
  omega
theorem quo_pos {p q : Int} (hp : 0 < p) (hq : 0 ≤ q) : 0 < p / gcdI p q := by
  have g := gcd_pos (q := q) hp
  obtain ⟨h1, _, _⟩ := gcd_rests (Int.le_of_lt hp) hq (by omega)
  have e := Int.ediv_mul_add_emod p (gcdI p q)
  rcases Int.lt_or_le 0 (p / gcdI p q) with h | h
  · exact h
  · have := Int.mul_le_mul_of_nonneg_right h (Int.le_of_lt g)
    omega
/-- What stands of a rational number in lowest terms. -/
def rs (r : Rat) : Bool := decide (r.num < 0)
def rp (r : Rat) : Int := (r.num.natAbs : Int)
def rq (r : Rat) : Int := (r.den : Int)
theorem rp_nonneg (r : Rat) : 0 ≤ rp r := by unfold rp; omega
theorem rq_pos (r : Rat) : 0 < rq r := by have := r.den_pos; unfold rq; omega
theorem low_of {s : Bool} {p q : Int} (hp : 0 < p) (hq : 0 < q) : rs (rv s p q) = s ∧ rp (rv s p q) = p / gcdI p q ∧ rq (rv s p q) = q / gcdI p q := by
  obtain ⟨h1, h2⟩ := rv_num (s := s) hp hq
  have h3 := quo_pos hp (Int.le_of_lt hq)
  unfold rs rp rq
  rw [h1, h2]
  refine ⟨sv_sgn h3, ?_, rfl⟩
  rw [sv_abs (Int.le_of_lt h3)]
  omega
theorem low_zero : rs 0 = false ∧ rp 0 = 0 ∧ rq 0 = 1 := ⟨rfl, rfl, rfl⟩
theorem sv_of (r : Rat) : sv (rs r) (rp r) = r.num := by
  unfold rs rp sv
  by_cases h : r.num < 0
  · simp [h]; omega
  · simp [h]; omega
theorem rv_of (r : Rat) : rv (rs r) (rp r) (rq r) = r := by
  unfold rv rq
  rw [sv_of, Int.toNat_natCast]
  exact Rat.mkRat_self r
theorem rp_zero {r : Rat} : rp r = 0 ↔ r = 0 := by
  rw [← Rat.num_eq_zero]
  unfold rp
  omega
theorem rv_eq_zero {s : Bool} {p q : Int} (hp : 0 ≤ p) (hq : 0 ≤ q) : rv s p q = 0 ↔ (p = 0 ∨ q = 0) := by
  constructor
  · intro h
    rcases Int.lt_or_le 0 p with h1 | h1
    · rcases Int.lt_or_le 0 q with h2 | h2
      · have := (low_of (s := s) h1 h2).2.1
        rw [h] at this
        have h3 := quo_pos h1 (Int.le_of_lt h2)
        rw [← this] at h3
        exact absurd h3 (by decide)
      · exact .inr (by omega)
    · exact .inl (by omega)
  · exact rv_zero

theorem rat_lt_trans {a b c : Rat} (h : a < b) (k : b < c) : a < c :=
  Rat.lt_of_le_of_ne (Rat.le_trans (Rat.le_of_lt h) (Rat.le_of_lt k)) fun e => by
    subst e
    exact Rat.not_le.2 h (Rat.le_of_lt k)
/-- Whether a number is below nought, nought, above. -/
def sgn (r : Rat) : Int := r.num.sign
/-- How two numbers compare. -/
def cmpR (a b : Rat) : Int := sgn (a - b)
theorem sign_div {n : Int} {g : Int} (hg : 0 < g) (hd : g ∣ n) : (n / g).sign = n.sign := by
  obtain ⟨k, rfl⟩ := hd
  rw [Int.mul_ediv_cancel_left k (Int.ne_of_gt hg), Int.sign_mul, Int.sign_eq_one_of_pos hg, Int.one_mul]
theorem sgn_mk {n : Int} {d : Nat} (hd : d ≠ 0) : sgn (mkRat n d) = n.sign := by
  unfold sgn
  rw [Rat.num_mkRat, if_neg hd]
  have hg : 0 < Nat.gcd d n.natAbs := Nat.gcd_pos_of_pos_left _ (by omega)
  refine sign_div (by omega) ?_
  rw [← Int.dvd_natAbs]
  exact Int.natCast_dvd_natCast.2 (Nat.gcd_dvd_right _ _)
theorem rv_add {s t : Bool} {p q a b : Int} (hq : 0 < q) (hb : 0 < b) : rv s p q + rv t a b = mkRat (sv s p * b + sv t a * q) (q * b).toNat := by
  obtain ⟨q, rfl⟩ := Int.eq_ofNat_of_zero_le (Int.le_of_lt hq)
  obtain ⟨b, rfl⟩ := Int.eq_ofNat_of_zero_le (Int.le_of_lt hb)
  unfold rv
  rw [Rat.mkRat_add_mkRat _ _ (by omega) (by omega), ← Int.natCast_mul]
  simp only [Int.toNat_natCast]
theorem rv_mul {s t : Bool} {p q a b : Int} (hq : 0 ≤ q) (hb : 0 ≤ b) : rv (s != t) (p * a) (q * b) = rv s p q * rv t a b := by
  obtain ⟨q, rfl⟩ := Int.eq_ofNat_of_zero_le hq
  obtain ⟨b, rfl⟩ := Int.eq_ofNat_of_zero_le hb
  unfold rv
  rw [Rat.mkRat_mul_mkRat, ← Int.natCast_mul]
  simp only [Int.toNat_natCast]
  congr 1
  cases s <;> cases t <;> simp [sv, Int.neg_mul, Int.mul_neg]
theorem rv_inv {s : Bool} {p q : Int} (hp : 0 < p) (hq : 0 < q) : rv s q p = (rv s p q)⁻¹ := by
  refine (Rat.inv_eq_of_mul_eq_one ?_).symm
  rw [← rv_mul (Int.le_of_lt hq) (Int.le_of_lt hp)]
  have hpq := Int.mul_pos hp hq
  rw [show (s != s) = false by simp, Int.mul_comm q p]
  obtain ⟨k, hk⟩ := Int.eq_ofNat_of_zero_le (Int.le_of_lt hpq)
  rw [hk]
  unfold rv sv
  simp only [Int.toNat_natCast]
  have : k ≠ 0 := by omega
  have e := Rat.mkRat_mul_left (n := 1) (d := 1) this
  simp at e
  simpa using e.trans (show mkRat 1 1 = 1 by rfl)
theorem rv_div {s t : Bool} {p q a b : Int} (hq : 0 ≤ q) (ha : 0 < a) (hb : 0 < b) : rv (s != t) (p * b) (q * a) = rv s p q / rv t a b := by
  rw [Rat.div_def, ← rv_inv ha hb, rv_mul hq (Int.le_of_lt ha)]
theorem sgn_rv {s : Bool} {p q : Int} (hp : 0 ≤ p) (hq : 0 ≤ q) : sgn (rv s p q) = if p = 0 ∨ q = 0 then 0 else if s then -1 else 1 := by
  by_cases h : p = 0 ∨ q = 0
  · rw [if_pos h, rv_zero h]; rfl
  · rw [if_neg h]
    unfold rv
    rw [sgn_mk (by omega)]
    cases s
    · simp [sv]; omega
    · simp [sv]; omega
theorem cmp_rv {s t : Bool} {p q a b : Int} (hq : 0 < q) (hb : 0 < b) : cmpR (rv s p q) (rv t a b) = (sv s p * b - sv t a * q).sign := by
  unfold cmpR
  rw [Rat.sub_eq_add_neg, ← rv_not, rv_add hq hb, sgn_mk (by have := Int.mul_pos hq hb; omega), sv_not, Int.neg_mul, ← Int.sub_eq_add_neg]
theorem cmp_same {s : Bool} {p q a b : Int} (hq : 0 < q) (hb : 0 < b) : cmpR (rv s p q) (rv s a b) = (if s then -1 else 1) * cmpI (p * b) (a * q) := by
  rw [cmp_rv hq hb]
  generalize hx : p * b = x
  generalize hy : a * q = y
  unfold cmpI
  cases s
  · simp only [sv, Bool.false_eq_true, if_false, hx, hy]
    split
    · rw [Int.sign_eq_neg_one_of_neg (by omega)]; rfl
    · split
      · rw [Int.sign_eq_one_of_pos (by omega)]; rfl
      · rw [show x - y = 0 by omega]; rfl
  · simp only [sv, if_true, Int.neg_mul, hx, hy]
    split
    · rw [Int.sign_eq_one_of_pos (by omega)]; rfl
    · split
      · rw [Int.sign_eq_neg_one_of_neg (by omega)]; rfl
      · rw [show -x - -y = 0 by omega]; rfl
theorem sgn_lt {r : Rat} : sgn r = -1 ↔ r < 0 := by
  unfold sgn
  rw [Int.sign_eq_neg_one_iff_neg, ← Rat.not_le, ← Rat.num_nonneg]
  omega
theorem sgn_gt {r : Rat} : sgn r = 1 ↔ 0 < r := by
  unfold sgn
  rw [Int.sign_eq_one_iff_pos, Rat.lt_iff]
  simp
theorem sgn_eq {r : Rat} : sgn r = 0 ↔ r = 0 := by
  unfold sgn
  rw [Int.sign_eq_zero_iff_zero, Rat.num_eq_zero]
theorem sgn_cases (r : Rat) : sgn r = -1 ∨ sgn r = 0 ∨ sgn r = 1 := by
  unfold sgn
  rcases Int.lt_trichotomy r.num 0 with h | h | h
  · exact .inl (Int.sign_eq_neg_one_of_neg h)
  · rw [h]; exact .inr (.inl rfl)
  · exact .inr (.inr (Int.sign_eq_one_of_pos h))
theorem cmp_lt {a b : Rat} : cmpR a b = -1 ↔ a < b := by
  unfold cmpR
  rw [sgn_lt, Rat.lt_iff_sub_pos a b, ← Rat.neg_sub b a, Rat.neg_lt_iff]
  simp
theorem cmp_gt {a b : Rat} : cmpR a b = 1 ↔ b < a := by
  unfold cmpR
  rw [sgn_gt, Rat.lt_iff_sub_pos b a]
theorem cmp_eq {a b : Rat} : cmpR a b = 0 ↔ a = b := by
  unfold cmpR
  rw [sgn_eq]
  constructor
  · intro h
    have := Rat.sub_add_cancel (a := a) (b := b)
    rw [h, Rat.zero_add] at this
    exact this.symm
  · intro h
    rw [h, Rat.sub_self]
theorem cmp_self (a : Rat) : cmpR a a = 0 := cmp_eq.2 rfl
theorem cmp_cases (a b : Rat) : cmpR a b = -1 ∨ cmpR a b = 0 ∨ cmpR a b = 1 := sgn_cases _
theorem cmp_bd (a b : Rat) : -1 ≤ cmpR a b ∧ cmpR a b ≤ 1 := by rcases cmp_cases a b with h | h | h <;> rw [h] <;> decide
theorem sgn_bd (a : Rat) : -1 ≤ sgn a ∧ sgn a ≤ 1 := by rcases sgn_cases a with h | h | h <;> rw [h] <;> decide
/-- If the signs differ, they tell how the numbers compare. -/
theorem cmp_sgn {a b : Rat} (h : cmpI (sgn a) (sgn b) ≠ 0) : cmpI (sgn a) (sgn b) = cmpR a b := by
  have key : sgn a < sgn b → a < b := by
    intro hl
    rcases sgn_cases a with ha | ha | ha <;> rcases sgn_cases b with hb | hb | hb <;> rw [ha, hb] at hl <;> first | (exact absurd hl (by decide)) | skip
    · rw [sgn_eq.1 hb]; exact sgn_lt.1 ha
    · exact rat_lt_trans (sgn_lt.1 ha) (sgn_gt.1 hb)
    · rw [sgn_eq.1 ha]; exact sgn_gt.1 hb
  have key2 : sgn b < sgn a → b < a := by
    intro hl
    rcases sgn_cases a with ha | ha | ha <;> rcases sgn_cases b with hb | hb | hb <;> rw [ha, hb] at hl <;> first | (exact absurd hl (by decide)) | skip
    · rw [sgn_eq.1 ha]; exact sgn_lt.1 hb
    · exact rat_lt_trans (sgn_lt.1 hb) (sgn_gt.1 ha)
    · rw [sgn_eq.1 hb]; exact sgn_gt.1 ha
  rcases Int.lt_trichotomy (sgn a) (sgn b) with hl | hl | hl
  · rw [cmpI_lt hl, cmp_lt.2 (key hl)]
  · rw [hl] at h; exact absurd (cmpI_eq _) h
  · rw [cmpI_gt hl, cmp_gt.2 (key2 hl)]
end Go.Proofs.YtaollppieonmbaaDoor
