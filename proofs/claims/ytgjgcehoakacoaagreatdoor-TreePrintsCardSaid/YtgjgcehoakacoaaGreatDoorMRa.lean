/-
  Rational numbers of a sign and two naturals: what they are in lowest terms, their sums, products, quotients, signs, and how they compare. No function of the program.
  Numbers as values of the program: a natural number (a slice of words), a row of bits, a fraction of either; and the contracts of layers 1 and 2 over such values. Conditions: as those contracts have them.
  Contracts of ratio's isZero, Sign, Int, lowest, reduced, New, Neg1 and Abs: a fraction in lowest terms. Conditions: the parts are of at most 2^18 words; the table of math/bits stands in its variable.
-/
import Derived.Test.YtgjgcehoakacoaaGreatDoorMQ
namespace Go.Proofs.YtgjgcehoakacoaaGreatDoor
open Go.RowKit

/-- A number with its sign. -/
def sv (s : Bool) (p : Int) : Int := if s then -p else p
/-- The rational number of a sign and two naturals; over nought it is nought. -/
def rv (s : Bool) (p q : Int) : Rat := mkRat (sv s p) q.toNat
theorem sv_not (s : Bool) (p : Int) : sv (!s) p = -sv s p := by cases s <;> simp [sv]
theorem sv_abs {s : Bool} {p : Int} (h : 0 ≤ p) : (sv s p).natAbs = p.toNat := by cases s <;> simp [sv] <;> omega
theorem sv_sgn {s : Bool} {p : Int} (h : 0 < p) : decide (sv s p < 0) = s := by
  cases s <;> simp [sv] <;> omega
theorem rv_zero {s : Bool} {p q : Int} (h : p = 0 ∨ q = 0) : rv s p q = 0 := by
  unfold rv
  rcases h with h | h
  · subst h
    cases s <;> simp [sv]
  · subst h
    simp
theorem rv_not (s : Bool) (p q : Int) : rv (!s) p q = -rv s p q := by
  unfold rv
  rw [sv_not, Rat.neg_mkRat]
theorem sv_div {s : Bool} {p g : Int} (h : g ∣ p) : sv s p / g = sv s (p / g) := by
  cases s
  · rfl
  · simp only [sv, if_true]
    exact Int.neg_ediv_of_dvd h
theorem rv_num {s : Bool} {p q : Int} (hp : 0 < p) (hq : 0 < q) : (rv s p q).num = sv s (p / gcdI p q) ∧ ((rv s p q).den : Int) = q / gcdI p q := by
  obtain ⟨a, rfl⟩ := Int.eq_ofNat_of_zero_le (Int.le_of_lt hp)
  obtain ⟨b, rfl⟩ := Int.eq_ofNat_of_zero_le (Int.le_of_lt hq)
  have hb : b ≠ 0 := by omega
  unfold rv
  rw [Rat.num_mkRat, Rat.den_mkRat, sv_abs (Int.le_of_lt hp)]
  simp only [Int.toNat_natCast, if_neg hb]
  have e : gcdI (a : Int) (b : Int) = ((Nat.gcd b a : Nat) : Int) := by unfold gcdI; rw [Int.toNat_natCast, Int.toNat_natCast, Nat.gcd_comm]
  rw [e]
  refine ⟨?_, by rw [Int.natCast_ediv]⟩
  exact sv_div (Int.natCast_dvd_natCast.2 (Nat.gcd_dvd_right b a))
theorem gcd_pos {p q : Int} (hp : 0 < p) : 0 < gcdI p q := by
  unfold gcdI
  have := Nat.gcd_pos_of_pos_left (n := q.toNat) (m := p.toNat) (by omega)
  omega
theorem quo_pos {p q : Int} (hp : 0 < p) (hq : 0 ≤ q) : 0 < p / gcdI p q := by
  have g := gcd_pos (q := q) hp
  obtain ⟨h1, _, _⟩ := gcd_rests (Int.le_of_lt hp) hq (by omega)
  have e := Int.ediv_mul_add_emod p (gcdI p q)
  rcases Int.lt_or_le 0 (p / gcdI p q) with h | h
  · exact h
  · have := Int.mul_le_mul_of_nonneg_right h (Int.le_of_lt g)
    omega
/-- What stands of a rational number in lowest terms. -/
def rs (r : Rat) : Bool := decide (r.num < 0)
def rp (r : Rat) : Int := (r.num.natAbs : Int)
def rq (r : Rat) : Int := (r.den : Int)
theorem rp_nonneg (r : Rat) : 0 ≤ rp r := by unfold rp; omega
theorem rq_pos (r : Rat) : 0 < rq r := by have := r.den_pos; unfold rq; omega
theorem low_of {s : Bool} {p q : Int} (hp : 0 < p) (hq : 0 < q) : rs (rv s p q) = s ∧ rp (rv s p q) = p / gcdI p q ∧ rq (rv s p q) = q / gcdI p q := by
  obtain ⟨h1, h2⟩ := rv_num (s := s) hp hq
  have h3 := quo_pos hp (Int.le_of_lt hq)
  unfold rs rp rq
  rw [h1, h2]
  refine ⟨sv_sgn h3, ?_, rfl⟩
  rw [sv_abs (Int.le_of_lt h3)]
  omega
theorem low_zero : rs 0 = false ∧ rp 0 = 0 ∧ rq 0 = 1 := ⟨rfl, rfl, rfl⟩
theorem sv_of (r : Rat) : sv (rs r) (rp r) = r.num := by
  unfold rs rp sv
  by_cases h : r.num < 0
  · simp [h]; omega
  · simp [h]; omega
theorem rv_of (r : Rat) : rv (rs r) (rp r) (rq r) = r := by
  unfold rv rq
  rw [sv_of, Int.toNat_natCast]
  exact Rat.mkRat_self r
theorem rp_zero {r : Rat} : rp r = 0 ↔ r = 0 := by
  rw [← Rat.num_eq_zero]
  unfold rp
  omega
theorem rv_eq_zero {s : Bool} {p q : Int} (hp : 0 ≤ p) (hq : 0 ≤ q) : rv s p q = 0 ↔ (p = 0 ∨ q = 0) := by
  constructor
  · intro h
    rcases Int.lt_or_le 0 p with h1 | h1
    · rcases Int.lt_or_le 0 q with h2 | h2
      · have := (low_of (s := s) h1 h2).2.1
        rw [h] at this
        have h3 := quo_pos h1 (Int.le_of_lt h2)
        rw [← this] at h3
        exact absurd h3 (by decide)
      · exact .inr (by omega)
    · exact .inl (by omega)
  · exact rv_zero

theorem rat_lt_trans {a b c : Rat} (h : a < b) (k : b < c) : a < c :=
  Rat.lt_of_le_of_ne (Rat.le_trans (Rat.le_of_lt h) (Rat.le_of_lt k)) fun e => by
    subst e
    exact Rat.not_le.2 h (Rat.le_of_lt k)
/-- Whether a number is below nought, nought, above. -/
def sgn (r : Rat) : Int := r.num.sign
/-- How two numbers compare. -/
def cmpR (a b : Rat) : Int := sgn (a - b)
theorem sign_div {n : Int} {g : Int} (hg : 0 < g) (hd : g ∣ n) : (n / g).sign = n.sign := by
  obtain ⟨k, rfl⟩ := hd
  rw [Int.mul_ediv_cancel_left k (Int.ne_of_gt hg), Int.sign_mul, Int.sign_eq_one_of_pos hg, Int.one_mul]
theorem sgn_mk {n : Int} {d : Nat} (hd : d ≠ 0) : sgn (mkRat n d) = n.sign := by
  unfold sgn
  rw [Rat.num_mkRat, if_neg hd]
  have hg : 0 < Nat.gcd d n.natAbs := Nat.gcd_pos_of_pos_left _ (by omega)
  refine sign_div (by omega) ?_
  rw [← Int.dvd_natAbs]
  exact Int.natCast_dvd_natCast.2 (Nat.gcd_dvd_right _ _)
theorem rv_add {s t : Bool} {p q a b : Int} (hq : 0 < q) (hb : 0 < b) : rv s p q + rv t a b = mkRat (sv s p * b + sv t a * q) (q * b).toNat := by
  obtain ⟨q, rfl⟩ := Int.eq_ofNat_of_zero_le (Int.le_of_lt hq)
  obtain ⟨b, rfl⟩ := Int.eq_ofNat_of_zero_le (Int.le_of_lt hb)
  unfold rv
  rw [Rat.mkRat_add_mkRat _ _ (by omega) (by omega), ← Int.natCast_mul]
  simp only [Int.toNat_natCast]
theorem rv_mul {s t : Bool} {p q a b : Int} (hq : 0 ≤ q) (hb : 0 ≤ b) : rv (s != t) (p * a) (q * b) = rv s p q * rv t a b := by
  obtain ⟨q, rfl⟩ := Int.eq_ofNat_of_zero_le hq
  obtain ⟨b, rfl⟩ := Int.eq_ofNat_of_zero_le hb
  unfold rv
  rw [Rat.mkRat_mul_mkRat, ← Int.natCast_mul]
  simp only [Int.toNat_natCast]
  congr 1
  cases s <;> cases t <;> simp [sv, Int.neg_mul, Int.mul_neg]
theorem rv_inv {s : Bool} {p q : Int} (hp : 0 < p) (hq : 0 < q) : rv s q p = (rv s p q)⁻¹ := by
  refine (Rat.inv_eq_of_mul_eq_one ?_).symm
  rw [← rv_mul (Int.le_of_lt hq) (Int.le_of_lt hp)]
  have hpq := Int.mul_pos hp hq
  rw [show (s != s) = false by simp, Int.mul_comm q p]
  obtain ⟨k, hk⟩ := Int.eq_ofNat_of_zero_le (Int.le_of_lt hpq)
  rw [hk]
  unfold rv sv
  simp only [Int.toNat_natCast]
  have : k ≠ 0 := by omega
  have e := Rat.mkRat_mul_left (n := 1) (d := 1) this
  simp at e
  simpa using e.trans (show mkRat 1 1 = 1 by rfl)
theorem rv_div {s t : Bool} {p q a b : Int} (hq : 0 ≤ q) (ha : 0 < a) (hb : 0 < b) : rv (s != t) (p * b) (q * a) = rv s p q / rv t a b := by
  rw [Rat.div_def, ← rv_inv ha hb, rv_mul hq (Int.le_of_lt ha)]
theorem sgn_rv {s : Bool} {p q : Int} (hp : 0 ≤ p) (hq : 0 ≤ q) : sgn (rv s p q) = if p = 0 ∨ q = 0 then 0 else if s then -1 else 1 := by
  by_cases h : p = 0 ∨ q = 0
  · rw [if_pos h, rv_zero h]; rfl
  · rw [if_neg h]
    unfold rv
    rw [sgn_mk (by omega)]
    cases s
    · simp [sv]; omega
    · simp [sv]; omega
theorem cmp_rv {s t : Bool} {p q a b : Int} (hq : 0 < q) (hb : 0 < b) : cmpR (rv s p q) (rv t a b) = (sv s p * b - sv t a * q).sign := by
  unfold cmpR
  rw [Rat.sub_eq_add_neg, ← rv_not, rv_add hq hb, sgn_mk (by have := Int.mul_pos hq hb; omega), sv_not, Int.neg_mul, ← Int.sub_eq_add_neg]
theorem cmp_same {s : Bool} {p q a b : Int} (hq : 0 < q) (hb : 0 < b) : cmpR (rv s p q) (rv s a b) = (if s then -1 else 1) * cmpI (p * b) (a * q) := by
  rw [cmp_rv hq hb]
  generalize hx : p * b = x
  generalize hy : a * q = y
  unfold cmpI
  cases s
  · simp only [sv, Bool.false_eq_true, if_false, hx, hy]
    split
    · rw [Int.sign_eq_neg_one_of_neg (by omega)]; rfl
    · split
      · rw [Int.sign_eq_one_of_pos (by omega)]; rfl
      · rw [show x - y = 0 by omega]; rfl
  · simp only [sv, if_true, Int.neg_mul, hx, hy]
    split
    · rw [Int.sign_eq_one_of_pos (by omega)]; rfl
    · split
      · rw [Int.sign_eq_neg_one_of_neg (by omega)]; rfl
      · rw [show -x - -y = 0 by omega]; rfl
theorem sgn_lt {r : Rat} : sgn r = -1 ↔ r < 0 := by
  unfold sgn
  rw [Int.sign_eq_neg_one_iff_neg, ← Rat.not_le, ← Rat.num_nonneg]
  omega
theorem sgn_gt {r : Rat} : sgn r = 1 ↔ 0 < r := by
  unfold sgn
  rw [Int.sign_eq_one_iff_pos, Rat.lt_iff]
  simp
theorem sgn_eq {r : Rat} : sgn r = 0 ↔ r = 0 := by
  unfold sgn
  rw [Int.sign_eq_zero_iff_zero, Rat.num_eq_zero]
theorem sgn_cases (r : Rat) : sgn r = -1 ∨ sgn r = 0 ∨ sgn r = 1 := by
  unfold sgn
  rcases Int.lt_trichotomy r.num 0 with h | h | h
  · exact .inl (Int.sign_eq_neg_one_of_neg h)
  · rw [h]; exact .inr (.inl rfl)
  · exact .inr (.inr (Int.sign_eq_one_of_pos h))
theorem cmp_lt {a b : Rat} : cmpR a b = -1 ↔ a < b := by
  unfold cmpR
  rw [sgn_lt, Rat.lt_iff_sub_pos a b, ← Rat.neg_sub b a, Rat.neg_lt_iff]
  simp
theorem cmp_gt {a b : Rat} : cmpR a b = 1 ↔ b < a := by
  unfold cmpR
  rw [sgn_gt, Rat.lt_iff_sub_pos b a]
theorem cmp_eq {a b : Rat} : cmpR a b = 0 ↔ a = b := by
  unfold cmpR
  rw [sgn_eq]
  constructor
  · intro h
    have := Rat.sub_add_cancel (a := a) (b := b)
    rw [h, Rat.zero_add] at this
    exact this.symm
  · intro h
    rw [h, Rat.sub_self]
theorem cmp_self (a : Rat) : cmpR a a = 0 := cmp_eq.2 rfl
theorem cmp_cases (a b : Rat) : cmpR a b = -1 ∨ cmpR a b = 0 ∨ cmpR a b = 1 := sgn_cases _
theorem cmp_bd (a b : Rat) : -1 ≤ cmpR a b ∧ cmpR a b ≤ 1 := by rcases cmp_cases a b with h | h | h <;> rw [h] <;> decide
theorem sgn_bd (a : Rat) : -1 ≤ sgn a ∧ sgn a ≤ 1 := by rcases sgn_cases a with h | h | h <;> rw [h] <;> decide
/-- If the signs differ, they tell how the numbers compare. -/
theorem cmp_sgn {a b : Rat} (h : cmpI (sgn a) (sgn b) ≠ 0) : cmpI (sgn a) (sgn b) = cmpR a b := by
  have key : sgn a < sgn b → a < b := by
    intro hl
    rcases sgn_cases a with ha | ha | ha <;> rcases sgn_cases b with hb | hb | hb <;> rw [ha, hb] at hl <;> first | (exact absurd hl (by decide)) | skip
    · rw [sgn_eq.1 hb]; exact sgn_lt.1 ha
    · exact rat_lt_trans (sgn_lt.1 ha) (sgn_gt.1 hb)
    · rw [sgn_eq.1 ha]; exact sgn_gt.1 hb
  have key2 : sgn b < sgn a → b < a := by
    intro hl
    rcases sgn_cases a with ha | ha | ha <;> rcases sgn_cases b with hb | hb | hb <;> rw [ha, hb] at hl <;> first | (exact absurd hl (by decide)) | skip
    · rw [sgn_eq.1 ha]; exact sgn_lt.1 hb
    · exact rat_lt_trans (sgn_lt.1 hb) (sgn_gt.1 ha)
    · rw [sgn_eq.1 hb]; exact sgn_gt.1 ha
  rcases Int.lt_trichotomy (sgn a) (sgn b) with hl | hl | hl
  · rw [cmpI_lt hl, cmp_lt.2 (key hl)]
  · rw [hl] at h; exact absurd (cmpI_eq _) h
  · rw [cmpI_gt hl, cmp_gt.2 (key2 hl)]
end Go.Proofs.YtgjgcehoakacoaaGreatDoor
namespace Go.Proofs.YtgjgcehoakacoaaGreatDoor
open Go.RowKit
set_option maxRecDepth 100000

/-- The value is a slice of at most L words, the number p. -/
def NatV (w : World) (v : Value) (p : Int) (L : Nat) : Prop := ∃ (A : Option Addr) (n c : Nat) (us : List Int), v = .slice A n c ∧ us.length = n ∧ n ≤ c ∧ Rn w A us ∧ AllW us ∧ nv us = p ∧ n ≤ L
/-- And no word at its end is nought. -/
def NatC (w : World) (v : Value) (p : Int) (L : Nat) : Prop := ∃ (A : Option Addr) (n c : Nat) (us : List Int), v = .slice A n c ∧ us.length = n ∧ n ≤ c ∧ Rn w A us ∧ IsNat p us ∧ n ≤ L
theorem NatC.v {w : World} {v : Value} {p : Int} {L : Nat} (h : NatC w v p L) : NatV w v p L := by
  obtain ⟨A, n, c, us, e, hn, hc, hr, hi, hl⟩ := h
  exact ⟨A, n, c, us, e, hn, hc, hr, hi.all, hi.val, hl⟩
theorem NatV.below {w w' : World} {v : Value} {p : Int} {L : Nat} (h : NatV w v p L) (hb : Below w.heap.size w w') : NatV w' v p L := by
  obtain ⟨A, n, c, us, e, hn, hc, hr, hi⟩ := h
  exact ⟨A, n, c, us, e, hn, hc, hr.below hb (Nat.le_refl _), hi⟩
theorem NatC.below {w w' : World} {v : Value} {p : Int} {L : Nat} (h : NatC w v p L) (hb : Below w.heap.size w w') : NatC w' v p L := by
  obtain ⟨A, n, c, us, e, hn, hc, hr, hi⟩ := h
  exact ⟨A, n, c, us, e, hn, hc, hr.below hb (Nat.le_refl _), hi⟩
theorem NatV.alloc {w : World} {v : Value} {p : Int} {L : Nat} (h : NatV w v p L) (o : Obj) : NatV (w.alloc o) v p L := h.below (bel_alloc (Below.refl _ _) o)
theorem NatC.alloc {w : World} {v : Value} {p : Int} {L : Nat} (h : NatC w v p L) (o : Obj) : NatC (w.alloc o) v p L := h.below (bel_alloc (Below.refl _ _) o)
theorem NatV.mono {w : World} {v : Value} {p : Int} {L M : Nat} (h : NatV w v p L) (k : L ≤ M) : NatV w v p M := by
  obtain ⟨A, n, c, us, e, hn, hc, hr, ha, hv, hl⟩ := h
  exact ⟨A, n, c, us, e, hn, hc, hr, ha, hv, Nat.le_trans hl k⟩
theorem NatC.mono {w : World} {v : Value} {p : Int} {L M : Nat} (h : NatC w v p L) (k : L ≤ M) : NatC w v p M := by
  obtain ⟨A, n, c, us, e, hn, hc, hr, hi, hl⟩ := h
  exact ⟨A, n, c, us, e, hn, hc, hr, hi, Nat.le_trans hl k⟩
theorem NatV.nonneg {w : World} {v : Value} {p : Int} {L : Nat} (h : NatV w v p L) : 0 ≤ p := by
  obtain ⟨A, n, c, us, e, hn, hc, hr, ha, hv, hl⟩ := h
  rw [← hv]
  exact nv_nonneg _ ha
theorem NatV.lt {w : World} {v : Value} {p : Int} {L : Nat} (h : NatV w v p L) : p < 2 ^ (32 * L) := by
  obtain ⟨A, n, c, us, e, hn, hc, hr, ha, hv, hl⟩ := h
  rw [← hv]
  have := nv_lt us ha
  have := pow_mono (32 * us.length) (32 * L) (by omega)
  omega
theorem NatC.nonneg {w : World} {v : Value} {p : Int} {L : Nat} (h : NatC w v p L) : 0 ≤ p := h.v.nonneg
theorem NatC.lt {w : World} {v : Value} {p : Int} {L : Nat} (h : NatC w v p L) : p < 2 ^ (32 * L) := h.v.lt
theorem NatV.form {w : World} {v : Value} {p : Int} {L : Nat} (h : NatV w v p L) : ∃ A n c, v = .slice A n c := by
  obtain ⟨A, n, c, us, e, _⟩ := h
  exact ⟨A, n, c, e⟩
theorem NatC.form {w : World} {v : Value} {p : Int} {L : Nat} (h : NatC w v p L) : ∃ A n c, v = .slice A n c := h.v.form
/-- A value came back of which P holds; nothing that was there has changed. -/
def RetV (P : World → Value → Prop) (w : World) (e : Ending) (w' : World) : Prop := ∃ v, P w' v ∧ e = .returned v ∧ Below w.heap.size w w'
theorem RetN.v {p : Int} {L : Nat} {w : World} {e : Ending} {w' : World} (hp : p < 2 ^ (32 * L)) (h : RetN p w e w') : RetV (fun w v => NatC w v p L) w e w' := by
  obtain ⟨us, A, n, c, hi, hn, e1, hc, hr, -, hb⟩ := h
  exact ⟨_, ⟨A, n, c, us, rfl, hn, hc, hr, hi, by rw [← hn]; exact hi.le hp⟩, e1, hb⟩

section
variable {w : World} {x y : Value} {p q : Int} {L M : Nat}
theorem nmulV (h : NatV w x p L) (k : NatV w y q M) (hL : L ≤ 1048576) (hM : M ≤ 1048576) : Calls Tryz.prog 72 #[x, y] w (RetV (fun w v => NatC w v (p * q) (L + M)) w) := by
  have b := mul_bd h.nonneg h.lt k.lt rfl
  obtain ⟨A, n, c, us, rfl, hn, hc, hr, ha, hv, hl⟩ := h
  obtain ⟨B, m, d, vs, rfl, hm, hd, hs, hb, hw, hk⟩ := k
  refine (nmul_any A B n m c d us vs w hn hm hc hd hr hs ha hb (by omega) (by omega)).mono fun e w' r => ?_
  rw [hv, hw] at r
  exact r.v b
/-- A difference, and whether there is one. -/
def RetSubV (p q : Int) (L : Nat) (w : World) (e : Ending) (w' : World) : Prop := ∃ v, NatC w' v (if q ≤ p then p - q else 0) L ∧ e = .returned (.tuple #[v, .bool (decide (q ≤ p))]) ∧ Below w.heap.size w w'
theorem nlenV (h : NatV w x p L) (hL : L ≤ 1048576) : Calls Tryz.prog 76 #[x] w fun e w' => e = .returned (.int .i64 (blen p)) ∧ w = w' := by
  obtain ⟨A, n, c, us, rfl, hn, hc, hr, ha, hv, hl⟩ := h
  have r := nlen_any A n c us w hn hc hr ha (by omega)
  rw [hv] at r
  exact r
/-- A quotient, what is left, no error. -/
def RetDivV (p q : Int) (L M : Nat) (w : World) (e : Ending) (w' : World) : Prop := ∃ v u, NatC w' v (p / q) L ∧ NatC w' u (p % q) M ∧ e = .returned (.tuple #[v, u, .int .i64 0]) ∧ Below w.heap.size w w'
theorem ndivV (h : NatV w x p L) (k : NatV w y q M) (hL : L ≤ 1048576) (hM : M ≤ 1048576) (h0 : q ≠ 0) : Calls Tryz.prog 74 #[x, y] w (RetDivV p q L M w) := by
  have b1 := h.lt
  have b0 := h.nonneg
  have b2 := k.nonneg
  have b3 := k.lt
  have b4 := Int.ediv_le_self q b0
  have b5 := Int.emod_lt_of_pos p (show 0 < q by omega)
  obtain ⟨A, n, c, us, rfl, hn, hc, hr, ha, hv, hl⟩ := h
  obtain ⟨B, m, d, vs, rfl, hm, hd, hs, hb, hw, hk⟩ := k
  refine (ndiv_pos A B n m c d us vs w hn hm hc hd hr hs ha hb (by omega) (by omega) (by rw [hw]; exact h0)).mono fun e w' r => ?_
  rw [hv, hw] at r
  obtain ⟨us', vs', A', B', n', m', c', d', i1, i2, n1, n2, e1, c1, c2, r1, r2, -, -, hb'⟩ := r
  exact ⟨_, _, ⟨A', n', c', us', rfl, n1, c1, r1, i1, by rw [← n1]; exact i1.le (by omega)⟩, ⟨B', m', d', vs', rfl, n2, c2, r2, i2, by rw [← n2]; exact i2.le (by omega)⟩, e1, hb'⟩
theorem newV (a : Int) (ha : Word a) (w : World) : Calls Tryz.prog 71 #[.int .u64 a] w (RetV (fun w v => NatC w v a 2) w) :=
  (new_any a ha w).mono fun _ _ r => r.v (by rw [show (2 : Int) ^ (32 * 2) = 18446744073709551616 by decide]; exact ha.2)
end

/-- The value is a row of at most L bits, the number p. -/
def RowV (w : World) (v : Value) (p : Int) (L : Nat) : Prop := ∃ (A : Option Addr) (n c : Nat) (xs : List Bool), v = .slice A n c ∧ xs.length = n ∧ n ≤ c ∧ Rd w A xs ∧ val xs = p ∧ n ≤ L
/-- And there is no nought ahead. -/
def RowC (w : World) (v : Value) (p : Int) (L : Nat) : Prop := ∃ (A : Option Addr) (n c : Nat) (xs : List Bool), v = .slice A n c ∧ xs.length = n ∧ n ≤ c ∧ Rd w A xs ∧ val xs = p ∧ (n : Int) = blen p ∧ n ≤ L
theorem RowC.v {w : World} {v : Value} {p : Int} {L : Nat} (h : RowC w v p L) : RowV w v p L := by
  obtain ⟨A, n, c, us, e, hn, hc, hr, hi, _, hl⟩ := h
  exact ⟨A, n, c, us, e, hn, hc, hr, hi, hl⟩
theorem RowV.below {w w' : World} {v : Value} {p : Int} {L : Nat} (h : RowV w v p L) (hb : Below w.heap.size w w') : RowV w' v p L := by
  obtain ⟨A, n, c, us, e, hn, hc, hr, hi⟩ := h
  exact ⟨A, n, c, us, e, hn, hc, hr.below hb (Nat.le_refl _), hi⟩
theorem RowC.below {w w' : World} {v : Value} {p : Int} {L : Nat} (h : RowC w v p L) (hb : Below w.heap.size w w') : RowC w' v p L := by
  obtain ⟨A, n, c, us, e, hn, hc, hr, hi⟩ := h
  exact ⟨A, n, c, us, e, hn, hc, hr.below hb (Nat.le_refl _), hi⟩
theorem RowV.alloc {w : World} {v : Value} {p : Int} {L : Nat} (h : RowV w v p L) (o : Obj) : RowV (w.alloc o) v p L := h.below (bel_alloc (Below.refl _ _) o)
theorem RowC.alloc {w : World} {v : Value} {p : Int} {L : Nat} (h : RowC w v p L) (o : Obj) : RowC (w.alloc o) v p L := h.below (bel_alloc (Below.refl _ _) o)
theorem RowV.mono {w : World} {v : Value} {p : Int} {L M : Nat} (h : RowV w v p L) (k : L ≤ M) : RowV w v p M := by
  obtain ⟨A, n, c, us, e, hn, hc, hr, hv, hl⟩ := h
  exact ⟨A, n, c, us, e, hn, hc, hr, hv, Nat.le_trans hl k⟩
theorem RowC.mono {w : World} {v : Value} {p : Int} {L M : Nat} (h : RowC w v p L) (k : L ≤ M) : RowC w v p M := by
  obtain ⟨A, n, c, us, e, hn, hc, hr, hv, hb, hl⟩ := h
  exact ⟨A, n, c, us, e, hn, hc, hr, hv, hb, Nat.le_trans hl k⟩
theorem RowV.nonneg {w : World} {v : Value} {p : Int} {L : Nat} (h : RowV w v p L) : 0 ≤ p := by
  obtain ⟨A, n, c, us, e, hn, hc, hr, hv, hl⟩ := h
  rw [← hv]
  exact val_nonneg _
theorem RowV.lt {w : World} {v : Value} {p : Int} {L : Nat} (h : RowV w v p L) : p < 2 ^ L := by
  obtain ⟨A, n, c, us, e, hn, hc, hr, hv, hl⟩ := h
  rw [← hv]
  have := val_lt us
  have := pow_mono us.length L (by omega)
  omega
theorem RowV.form {w : World} {v : Value} {p : Int} {L : Nat} (h : RowV w v p L) : ∃ A n c, v = .slice A n c := by
  obtain ⟨A, n, c, us, e, _⟩ := h
  exact ⟨A, n, c, e⟩
theorem RowC.form {w : World} {v : Value} {p : Int} {L : Nat} (h : RowC w v p L) : ∃ A n c, v = .slice A n c := h.v.form
theorem RowC.nonneg {w : World} {v : Value} {p : Int} {L : Nat} (h : RowC w v p L) : 0 ≤ p := h.v.nonneg

section
variable {w : World} {x y : Value} {p q : Int} {L M : Nat}
/-- A quotient, and what is left. -/
def RetDivR (p q : Int) (L M : Nat) (w : World) (e : Ending) (w' : World) : Prop := ∃ v u, RowV w' v (p / q) L ∧ RowV w' u (p % q) M ∧ e = .returned (.tuple #[v, u]) ∧ Below w.heap.size w w'
end

/-- The three values are a fraction of the program, the number r. -/
def RV (w : World) (x y z : Value) (L : Nat) (r : Rat) : Prop := ∃ (s : Bool) (p q : Int), x = .bool s ∧ NatV w y p L ∧ NatV w z q L ∧ rv s p q = r
/-- And it is in lowest terms, without words of nought. -/
def RC (w : World) (x y z : Value) (L : Nat) (r : Rat) : Prop := x = .bool (rs r) ∧ NatC w y (rp r) L ∧ NatC w z (rq r) L
theorem RC.v {w : World} {x y z : Value} {L : Nat} {r : Rat} (h : RC w x y z L r) : RV w x y z L r := ⟨_, _, _, h.1, h.2.1.v, h.2.2.v, rv_of r⟩
theorem RV.form {w : World} {x y z : Value} {L : Nat} {r : Rat} (h : RV w x y z L r) : ∃ s A n c B m d, x = .bool s ∧ y = .slice A n c ∧ z = .slice B m d := by
  obtain ⟨s, p, q, e, h1, h2, _⟩ := h
  obtain ⟨A, n, c, e1⟩ := h1.form
  obtain ⟨B, m, d, e2⟩ := h2.form
  exact ⟨s, A, n, c, B, m, d, e, e1, e2⟩
theorem RC.form {w : World} {x y z : Value} {L : Nat} {r : Rat} (h : RC w x y z L r) : ∃ s A n c B m d, x = .bool s ∧ y = .slice A n c ∧ z = .slice B m d := h.v.form
theorem RV.below {w w' : World} {x y z : Value} {L : Nat} {r : Rat} (h : RV w x y z L r) (hb : Below w.heap.size w w') : RV w' x y z L r := by
  obtain ⟨s, p, q, e, h1, h2, h3⟩ := h
  exact ⟨s, p, q, e, h1.below hb, h2.below hb, h3⟩
theorem RC.below {w w' : World} {x y z : Value} {L : Nat} {r : Rat} (h : RC w x y z L r) (hb : Below w.heap.size w w') : RC w' x y z L r := ⟨h.1, h.2.1.below hb, h.2.2.below hb⟩
theorem RV.mono {w : World} {x y z : Value} {L M : Nat} {r : Rat} (h : RV w x y z L r) (k : L ≤ M) : RV w x y z M r := by
  obtain ⟨s, p, q, e, h1, h2, h3⟩ := h
  exact ⟨s, p, q, e, h1.mono k, h2.mono k, h3⟩
theorem RC.mono {w : World} {x y z : Value} {L M : Nat} {r : Rat} (h : RC w x y z L r) (k : L ≤ M) : RC w x y z M r := ⟨h.1, h.2.1.mono k, h.2.2.mono k⟩
/-- A fraction of the program came back, in lowest terms. -/
def RetR (r : Rat) (L : Nat) (w : World) (e : Ending) (w' : World) : Prop := ∃ x y z, RC w' x y z L r ∧ e = .returned (.agg #[x, y, z]) ∧ Below w.heap.size w w'
/-- With an error's number beside it. -/
def RetRE (r : Rat) (L : Nat) (n : Int) (w : World) (e : Ending) (w' : World) : Prop := ∃ x y z, RC w' x y z L r ∧ e = .returned (.tuple #[.agg #[x, y, z], .int .i64 n]) ∧ Below w.heap.size w w'
/-- The three values are a fraction of the document, the number r, in lowest terms. -/
def QC (w : World) (x y z : Value) (L : Nat) (r : Rat) : Prop := x = .bool (rs r) ∧ RowC w y (rp r) L ∧ RowC w z (rq r) L
theorem QC.form {w : World} {x y z : Value} {L : Nat} {r : Rat} (h : QC w x y z L r) : ∃ s A n c B m d, x = .bool s ∧ y = .slice A n c ∧ z = .slice B m d := by
  obtain ⟨e, h1, h2⟩ := h
  obtain ⟨A, n, c, e1⟩ := h1.form
  obtain ⟨B, m, d, e2⟩ := h2.form
  exact ⟨_, A, n, c, B, m, d, e, e1, e2⟩
theorem QC.below {w w' : World} {x y z : Value} {L : Nat} {r : Rat} (h : QC w x y z L r) (hb : Below w.heap.size w w') : QC w' x y z L r := ⟨h.1, h.2.1.below hb, h.2.2.below hb⟩
theorem QC.mono {w : World} {x y z : Value} {L M : Nat} {r : Rat} (h : QC w x y z L r) (k : L ≤ M) : QC w x y z M r := ⟨h.1, h.2.1.mono k, h.2.2.mono k⟩
def RetQ (r : Rat) (L : Nat) (w : World) (e : Ending) (w' : World) : Prop := ∃ x y z, QC w' x y z L r ∧ e = .returned (.agg #[x, y, z]) ∧ Below w.heap.size w w'

/-- A struct's three cells are written anew. -/
def wput (w : World) (g : Nat) (a b c : Value) : World := ((w.setCell ⟨g, 0, none⟩ a).setCell ⟨g, 1, none⟩ b).setCell ⟨g, 2, none⟩ c
section
variable {w w' : World} {g : Nat} {t : TypeId} {b0 : Bool} {A0 B0 : Option Addr} {n0 c0 m0 d0 : Nat}
theorem Rn.put3 {A : Option Addr} {us : List Int} (h : Rn w A us) (k : Blk w g t #[.bool b0, .slice A0 n0 c0, .slice B0 m0 d0]) (a b c : Value) : Rn (wput w g a b c) A us := by
  by_cases h0 : us = []
  · exact .inl h0
  · have hne : ∀ ad, A = some ad → g ≠ ad.block := by
      intro ad ha e
      obtain ⟨x, r, rfl⟩ : ∃ x r, us = x :: r := by
        cases us with
        | nil => exact absurd rfl h0
        | cons x r => exact ⟨x, r, rfl⟩
      obtain ⟨g', off, e1, _, hc⟩ := h.at_ (i := 0) (by simp)
      rw [e1] at ha
      injection ha with ha
      subst ha
      simp only at e
      subst e
      rw [k.cell] at hc
      rcases off with _ | _ | _ | off <;> simp at hc
    have f := fun (W : World) (hW : Rn W A us) (i : Nat) (u : Value) => hW.far (p := ⟨g, i, none⟩) (fun ad ha => hne ad ha) u
    exact f _ (f _ (f _ h 0 a) 1 b) 2 c
theorem Rn.put1 {A : Option Addr} {us : List Int} (h : Rn w A us) (k : Blk w g t #[.bool b0, .slice A0 n0 c0, .slice B0 m0 d0]) (i : Nat) (a : Value) : Rn (w.setCell ⟨g, i, none⟩ a) A us := by
  by_cases h0 : us = []
  · exact .inl h0
  · refine h.far (fun ad ha e => ?_) a
    obtain ⟨x, r, rfl⟩ : ∃ x r, us = x :: r := by
      cases us with
      | nil => exact absurd rfl h0
      | cons x r => exact ⟨x, r, rfl⟩
    obtain ⟨g', off, e1, _, hc⟩ := h.at_ (i := 0) (by simp)
    rw [e1] at ha
    injection ha with ha
    subst ha
    simp only at e
    subst e
    rw [k.cell] at hc
    rcases off with _ | _ | _ | off <;> simp at hc
theorem NatV.put1 {v : Value} {p : Int} {L : Nat} (h : NatV w v p L) (k : Blk w g t #[.bool b0, .slice A0 n0 c0, .slice B0 m0 d0]) (i : Nat) (a : Value) : NatV (w.setCell ⟨g, i, none⟩ a) v p L := by
  obtain ⟨A, n, c', us, e, hn, hc, hr, hi⟩ := h
  exact ⟨A, n, c', us, e, hn, hc, hr.put1 k i a, hi⟩
theorem NatV.put3 {v : Value} {p : Int} {L : Nat} (h : NatV w v p L) (k : Blk w g t #[.bool b0, .slice A0 n0 c0, .slice B0 m0 d0]) (a b c : Value) : NatV (wput w g a b c) v p L := by
  obtain ⟨A, n, c', us, e, hn, hc, hr, hi⟩ := h
  exact ⟨A, n, c', us, e, hn, hc, hr.put3 k a b c, hi⟩
theorem NatC.put3 {v : Value} {p : Int} {L : Nat} (h : NatC w v p L) (k : Blk w g t #[.bool b0, .slice A0 n0 c0, .slice B0 m0 d0]) (a b c : Value) : NatC (wput w g a b c) v p L := by
  obtain ⟨A, n, c', us, e, hn, hc, hr, hi⟩ := h
  exact ⟨A, n, c', us, e, hn, hc, hr.put3 k a b c, hi⟩
theorem Rd.put3 {cs : Array Value} {A : Option Addr} {us : List Bool} (h : Rd w A us) (k : Blk w g t cs) (ht : t ≠ 4) (a b c : Value) : Rd (wput w g a b c) A us := by
  rcases h with h0 | ⟨g', off, e, hg, hc⟩
  · exact .inl h0
  · have hne : ∀ ad, A = some ad → g ≠ ad.block := by
      intro ad ha e1
      rw [e] at ha
      injection ha with ha
      subst ha
      simp only at e1
      subst e1
      obtain ⟨cs', f, hh⟩ := hg
      unfold Blk at k
      rw [k] at hh
      injection hh with hh
      injection hh with _ h2 _
      exact ht h2
    have f := fun (W : World) (hW : Rd W A us) (i : Nat) (u : Value) => hW.far (p := ⟨g, i, none⟩) (fun ad ha => hne ad ha) u
    exact f _ (f _ (f _ (.inr ⟨g', off, e, hg, hc⟩) 0 a) 1 b) 2 c
theorem RowV.put3 {cs : Array Value} {v : Value} {p : Int} {L : Nat} (h : RowV w v p L) (k : Blk w g t cs) (ht : t ≠ 4) (a b c : Value) : RowV (wput w g a b c) v p L := by
  obtain ⟨A, n, c', us, e, hn, hc, hr, hi⟩ := h
  exact ⟨A, n, c', us, e, hn, hc, hr.put3 k ht a b c, hi⟩
theorem RowC.put3 {cs : Array Value} {v : Value} {p : Int} {L : Nat} (h : RowC w v p L) (k : Blk w g t cs) (ht : t ≠ 4) (a b c : Value) : RowC (wput w g a b c) v p L := by
  obtain ⟨A, n, c', us, e, hn, hc, hr, hi⟩ := h
  exact ⟨A, n, c', us, e, hn, hc, hr.put3 k ht a b c, hi⟩
theorem Blk.put3 {x y z : Value} (k : Blk w g t #[x, y, z]) (a b c : Value) : Blk (wput w g a b c) g t #[a, b, c] := by
  have h1 := ((k.set_ 0 a).set_ 1 b).set_ 2 c
  unfold wput
  simpa using h1
theorem Blk.put3_far {cs : Array Value} {g' : Nat} {t' : TypeId} (k : Blk w g' t' cs) (hg : g' ≠ g) (a b c : Value) : Blk (wput w g a b c) g' t' cs :=
  ((k.far (p := ⟨g, 0, none⟩) hg a).far (p := ⟨g, 1, none⟩) hg b).far (p := ⟨g, 2, none⟩) hg c
theorem bel_put3 {B : Nat} (h : Below B w w') (hg : B ≤ g) (a b c : Value) : Below B w (wput w' g a b c) :=
  ((h.setCell (p := ⟨g, 0, none⟩) hg a).setCell (p := ⟨g, 1, none⟩) hg b).setCell (p := ⟨g, 2, none⟩) hg c
theorem RV.put3 {x y z : Value} {L : Nat} {r : Rat} (h : RV w x y z L r) (k : Blk w g t #[.bool b0, .slice A0 n0 c0, .slice B0 m0 d0]) (a b c : Value) : RV (wput w g a b c) x y z L r := by
  obtain ⟨s, p, q, e, h1, h2, h3⟩ := h
  exact ⟨s, p, q, e, h1.put3 k a b c, h2.put3 k a b c, h3⟩
theorem RC.put3 {x y z : Value} {L : Nat} {r : Rat} (h : RC w x y z L r) (k : Blk w g t #[.bool b0, .slice A0 n0 c0, .slice B0 m0 d0]) (a b c : Value) : RC (wput w g a b c) x y z L r := ⟨h.1, h.2.1.put3 k a b c, h.2.2.put3 k a b c⟩
theorem QC.put3 {cs : Array Value} {x y z : Value} {L : Nat} {r : Rat} (h : QC w x y z L r) (k : Blk w g t cs) (ht : t ≠ 4) (a b c : Value) : QC (wput w g a b c) x y z L r := ⟨h.1, h.2.1.put3 k ht a b c, h.2.2.put3 k ht a b c⟩
/-- The block of a struct: three cells, none frozen. -/
theorem Blk.three {a b c : Value} (h : Blk w g t #[a, b, c]) : w.cell? ⟨g, 0, none⟩ = some a ∧ w.cell? ⟨g, 1, none⟩ = some b ∧ w.cell? ⟨g, 2, none⟩ = some c ∧ w.frozen? ⟨g, 0, none⟩ = false ∧ w.frozen? ⟨g, 1, none⟩ = false ∧ w.frozen? ⟨g, 2, none⟩ = false :=
  ⟨h.cell 0, h.cell 1, h.cell 2, h.frozen 0, h.frozen 1, h.frozen 2⟩
end
end Go.Proofs.YtgjgcehoakacoaaGreatDoor
namespace Go.Proofs.YtgjgcehoakacoaaGreatDoor
open Go.RowKit
set_option maxRecDepth 100000

theorem blen_zero {p : Int} (h : 0 ≤ p) : (blen p == 0) = decide (p = 0) := by
  by_cases h0 : p = 0
  · subst h0; rfl
  · rw [blen_pos (by omega), decide_eq_false h0]
theorem nat0 {w : World} (L : Nat) (w1 : World) : NatV w (.slice none 0 0) 0 L ∧ NatC w1 (.slice none 0 0) 0 L := ⟨⟨none, 0, 0, [], rfl, rfl, Nat.le_refl _, .inl rfl, AllW.nil, rfl, Nat.zero_le _⟩, ⟨none, 0, 0, [], rfl, rfl, Nat.le_refl _, .inl rfl, IsNat.nil, Nat.zero_le _⟩⟩
theorem NatC.fit {w : World} {v : Value} {p : Int} {L M : Nat} (h : NatC w v p L) (k : p < 2 ^ (32 * M)) : NatC w v p M := by
  obtain ⟨A, n, c, us, e, hn, hc, hr, hi, hl⟩ := h
  exact ⟨A, n, c, us, e, hn, hc, hr, hi, by rw [← hn]; exact hi.le k⟩
/-- A whole number as a fraction. -/
def intR (x : Int) : Rat := mkRat x 1
theorem intR_parts (x : Int) : rs (intR x) = decide (x < 0) ∧ rp (intR x) = x.natAbs ∧ rq (intR x) = 1 := by
  unfold intR rs rp rq
  rw [Rat.num_mkRat, Rat.den_mkRat]
  simp
theorem abs_word {x : Int} (h : -9223372036854775808 ≤ x ∧ x ≤ 9223372036854775807) : (x < 0 → IntKind.u64.wrap (-IntKind.u64.wrap x) = (x.natAbs : Int)) ∧ (¬ x < 0 → x = (x.natAbs : Int)) ∧ Word (x.natAbs : Int) := by
  refine ⟨fun hs => ?_, fun hs => by omega, by omega, by omega⟩
  simp [IntKind.wrap, IntKind.bits, IntKind.signed]
  omega

theorem RC.fit {w : World} {x y z : Value} {L M : Nat} {r : Rat} (h : RC w x y z L r) (k : rp r < 2 ^ (32 * M)) (l : rq r < 2 ^ (32 * M)) : RC w x y z M r := ⟨h.1, h.2.1.fit k, h.2.2.fit l⟩
theorem one_lt_pow {M : Nat} (h : 1 ≤ M) : (1 : Int) < 2 ^ (32 * M) := by
  have := pow_mono 1 (32 * M) (by omega)
  omega
theorem intR_zero : intR 0 = 0 := by unfold intR; simp
theorem RC.zero {w : World} {x y z : Value} {L M : Nat} (h : RC w x y z L (intR 0)) (hM : 1 ≤ M) : RC w x y z M 0 := by
  rw [intR_zero] at h
  have := one_lt_pow hM
  exact h.fit (by rw [low_zero.2.1]; omega) (by rw [low_zero.2.2]; exact this)

theorem size_alloc (w : World) (o : Obj) : (w.alloc o).heap.size = w.heap.size + 1 := by simp
theorem bel_2 (w : World) (o1 o2 : Obj) : Below w.heap.size w ((w.alloc o1).alloc o2) := bel_alloc (bel_alloc (Below.refl _ _) _) _
theorem bel_3 (w : World) (o1 o2 o3 : Obj) : Below w.heap.size w (((w.alloc o1).alloc o2).alloc o3) := bel_alloc (bel_2 w o1 o2) _
section
variable {w w' : World} {o1 o2 o3 : Obj} {t : TypeId} {cs : Array Value}
theorem Blk.in21 (hb : Below ((w.alloc (.cells cs t)).alloc o2).heap.size ((w.alloc (.cells cs t)).alloc o2) w') : Blk w' w.heap.size t cs :=
  ((Blk.new w t cs).alloc o2).below hb ((Blk.new w t cs).alloc o2).lt
theorem Blk.in22 (hb : Below ((w.alloc o1).alloc (.cells cs t)).heap.size ((w.alloc o1).alloc (.cells cs t)) w') : Blk w' (w.heap.size + 1) t cs := by
  have h := Blk.made hb
  rw [size_alloc] at h
  exact h
theorem Blk.in31 (hb : Below (((w.alloc (.cells cs t)).alloc o2).alloc o3).heap.size (((w.alloc (.cells cs t)).alloc o2).alloc o3) w') : Blk w' w.heap.size t cs :=
  (((Blk.new w t cs).alloc o2).alloc o3).below hb (((Blk.new w t cs).alloc o2).alloc o3).lt
theorem Blk.in32 (hb : Below (((w.alloc o1).alloc (.cells cs t)).alloc o3).heap.size (((w.alloc o1).alloc (.cells cs t)).alloc o3) w') : Blk w' (w.heap.size + 1) t cs := by
  have h := Blk.in21 hb
  rw [size_alloc] at h
  exact h
theorem Blk.in33 (hb : Below (((w.alloc o1).alloc o2).alloc (.cells cs t)).heap.size (((w.alloc o1).alloc o2).alloc (.cells cs t)) w') : Blk w' (w.heap.size + 1 + 1) t cs := by
  have h := Blk.made hb
  rw [size_alloc, size_alloc] at h
  exact h
end

/-- Without its sign. -/
def absR (r : Rat) : Rat := if r < 0 then -r else r
theorem rv_abs {s : Bool} {p q : Int} (hp : 0 ≤ p) (hq : 0 ≤ q) : rv false p q = absR (rv s p q) := by
  unfold absR
  have h := sgn_rv (s := s) hp hq
  by_cases h0 : p = 0 ∨ q = 0
  · rw [rv_zero h0, rv_zero h0]; rfl
  · rw [if_neg h0] at h
    cases s
    · rw [if_neg]
      intro h2
      rw [sgn_lt.2 h2] at h
      simp at h
    · rw [if_pos (sgn_lt.1 (by rw [h]; rfl)), ← rv_not]
      rfl
/-- No fraction, and an error's number. -/
def RetErr (n : Int) (w : World) (e : Ending) (w' : World) : Prop := e = .returned (.tuple #[.agg #[.bool false, .slice none 0 0, .slice none 0 0], .int .i64 n]) ∧ Below w.heap.size w w'
end Go.Proofs.YtgjgcehoakacoaaGreatDoor
