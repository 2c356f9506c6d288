/-
  Small laws of numbers, and the contract of the reference's Gcd on rows of bits. Conditions: rows of at most 2^20 bits.
-/
import Derived.Test.YtaollppieonmbaaDoorQsmall
namespace Go.Proofs.YtaollppieonmbaaDoor
open Go.RowKit
set_option maxRecDepth 100000

theorem blen_pos {v : Int} (h : 0 < v) : (blen v == 0) = false := by
  obtain ⟨k, e, _, ge, _⟩ := blen_spec (Int.le_of_lt h)
  have := (ge h).2
  rw [e]
  simp
  omega
theorem gcd_nonneg (a b : Int) : 0 ≤ gcdI a b := by unfold gcdI; omega
theorem gcd_bd {a b : Int} {k : Nat} (ha : 0 ≤ a) (hb : 0 ≤ b) (h1 : a < 2 ^ k) (h2 : b < 2 ^ k) : gcdI a b < 2 ^ k := by
  by_cases h0 : a = 0
  · rw [h0, gcdI_zero_left hb]
    exact h2
  · have := (gcdI_le (a := a) (b := b) (by omega)).2
    omega
theorem gcd_zero {a b : Int} (ha : 0 ≤ a) (hb : 0 ≤ b) (h : gcdI a b = 0) : a = 0 ∧ b = 0 := by
  unfold gcdI at h
  have h1 : Nat.gcd a.toNat b.toNat = 0 := by omega
  rw [Nat.gcd_eq_zero_iff] at h1
  omega
theorem gcd_comm (a b : Int) : gcdI b a = gcdI a b := by unfold gcdI; rw [Nat.gcd_comm]
theorem gcd_rests {a b : Int} (ha : 0 ≤ a) (hb : 0 ≤ b) (h : gcdI a b ≠ 0) : a % gcdI a b = 0 ∧ b % gcdI a b = 0 ∧ gcdI (a / gcdI a b) (b / gcdI a b) = 1 := by
  obtain ⟨x, rfl⟩ := Int.eq_ofNat_of_zero_le ha
  obtain ⟨y, rfl⟩ := Int.eq_ofNat_of_zero_le hb
  unfold gcdI at h ⊢
  simp only [Int.toNat_natCast] at h ⊢
  have hg : 0 < Nat.gcd x y := by omega
  rw [← Int.natCast_emod, ← Int.natCast_emod, ← Int.natCast_ediv, ← Int.natCast_ediv]
  simp only [Int.toNat_natCast]
  refine ⟨?_, ?_, ?_⟩
  · rw [Nat.mod_eq_zero_of_dvd (Nat.gcd_dvd_left x y)]; rfl
  · rw [Nat.mod_eq_zero_of_dvd (Nat.gcd_dvd_right x y)]; rfl
  · rw [Nat.gcd_div (Nat.gcd_dvd_left x y) (Nat.gcd_dvd_right x y), Nat.div_self hg]; rfl

/-- A call came back with a row of which P holds. -/
def RetRw (P : List Bool → Prop) (w : World) (e : Ending) (w' : World) : Prop := ∃ (xs : List Bool) (A : Option Addr) (c : Nat), P xs ∧ e = .returned (.slice A xs.length c) ∧ xs.length ≤ c ∧ Rd w' A xs ∧ Below w.heap.size w w'
def IsGcdR (v : Int) (n : Nat) (xs : List Bool) : Prop := val xs = v ∧ xs.length ≤ n

set_option maxHeartbeats 3200000 in
theorem rgcd_any (A B : Option Addr) (n m c d : Nat) (xs ys : List Bool) (w : World) (hn : xs.length = n) (hm : ys.length = m) (hcn : n ≤ c) (hdm : m ≤ d) (hx : Rd w A xs) (hy : Rd w B ys) (N : Nat) (hN : N ≤ 1048576) (ln : n ≤ N) (lm : m ≤ N) :
    Calls Tryd.prog 51 #[.slice A n c, .slice B m d] w (RetRw (IsGcdR (gcdI (val xs) (val ys)) N) w) := by
  have HN := Lib.hid hn
  have HM := Lib.hid hm
  obtain ⟨G, hG⟩ : ∃ G, gcdI (val xs) (val ys) = G := ⟨_, rfl⟩
  rw [hG]
  have HG := Lib.hid hG
  clear hn hm hG
  go_enter Tryd.func51, Tryd.ntmps51
  go_wp2_with fail
  go_loopg [0, 1] (val ys).toNat (fun gk s0 s1 wr => ∃ (ps qs : List Bool) (P Q : Option Addr) (a b ca cb : Nat), s0 = .slice P a ca ∧ s1 = .slice Q b cb ∧ gk = (val qs).toNat ∧ Hid (ps.length = a) ∧ Hid (qs.length = b) ∧ a ≤ ca ∧ a ≤ N ∧ b ≤ N ∧ Rd wr P ps ∧ Rd wr Q qs ∧ Hid (gcdI (val ps) (val qs) = G) ∧ Hid (Below w.heap.size w wr) ∧ b ≤ cb)
  case atStart => exact ⟨xs, ys, A, B, n, m, c, d, rfl, rfl, rfl, HN, HM, hcn, ln, lm, hx, hy, HG, Below.refl _ _, hdm⟩
  case round =>
    clear hx hy
    obtain ⟨ps, qs, P, Q, a, b, ca, cb, rfl, rfl, hgk, lp, lq, hca, la, lb, hP, hQ, HG2, HB, hcb⟩ := hrel
    have GK := Lib.hid hgk
    have q0 := val_nonneg qs
    have p0 := val_nonneg ps
    have CL := Lib.hid (rlen_any Q b cb qs wr lq.out hQ (by omega))
    clear hgk
    by_cases h0 : val qs = 0
    · have F : Hid (IsGcdR G N ps) := by
        refine ⟨?_, by rw [lp.out]; exact la⟩
        rw [← HG2.out, h0, gcdI_zero_right p0]
      rw [h0, show blen 0 = 0 from rfl] at CL
      clear h0 HG2 GK
      go_wp2_with fail
      refine CL.out.mono ?_
      rintro e w1 ⟨rfl, rfl⟩
      clear CL
      go_wp2_with fail
      have hpl := lp.out
      subst hpl
      go_ret
      exact ⟨ps, P, ca, F.out, rfl, hca, hP, HB.out⟩
    · have hq0 : 0 < val qs := by omega
      obtain ⟨bl, hbl, _, ge, _⟩ := blen_spec q0
      have hbl1 := (ge hq0).2
      rw [hbl] at CL
      clear hbl ge
      have hbl2 : (0 : Int) < (bl : Int) := by omega
      go_wp2_with fail
      refine CL.out.mono ?_
      rintro e w1 ⟨rfl, rfl⟩
      clear CL
      go_wp2_with fail
      refine (rdiv_any P Q a b ca cb ps qs wr lp.out lq.out hP hQ (by omega) (by omega) hq0).mono ?_
      rintro e w2 ⟨ds, es, A2, B2, c2, d2, hp, rfl, hc2, hd2, hr2, hs2, hb2⟩
      obtain ⟨e1, e2, e3, _, e5⟩ := hp
      obtain ⟨_, em⟩ := div_of e1 e2 e3
      have HG3 : Hid (gcdI (val qs) (val es) = G) := by
        show _ = _
        rw [← em, gcdI_step p0 q0]
        exact HG2.out
      have MS : Hid ((val es).toNat < (val qs).toNat) := by show _ < _; omega
      have hQ2 := hQ.below hb2 (Nat.le_refl _)
      have HB2 := Lib.hid (bel_trans HB.out hb2)
      obtain ⟨el, hel⟩ : ∃ el, es.length = el := ⟨_, rfl⟩
      obtain ⟨dl, hdl⟩ : ∃ dl, ds.length = dl := ⟨_, rfl⟩
      rw [hel] at hd2 e5 ⊢
      rw [hdl]
      have EL := Lib.hid hel
      clear hel hdl e1 e2 e3 em hb2 HB hr2 hP hQ HG2 h0
      go_wp2_with fail
      go_roundg (val es).toNat
      case measure => rw [GK.out]; exact MS.out
      case rel => exact ⟨qs, es, Q, B2, b, el, cb, d2, rfl, rfl, rfl, lq, EL, hcb, lb, by omega, hQ2, hs2, HG3, HB2, hd2⟩
end Go.Proofs.YtaollppieonmbaaDoor
