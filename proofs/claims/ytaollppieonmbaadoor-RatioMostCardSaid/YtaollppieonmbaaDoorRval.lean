/-
  Numbers as values of the program: a natural number (a slice of words), a row of bits, a fraction of either; and the contracts of layers 1 and 2 over such values. Conditions: as those contracts have them.
-/
import Derived.Test.YtaollppieonmbaaDoorRat
import Derived.Test.YtaollppieonmbaaDoorQtext
namespace Go.Proofs.YtaollppieonmbaaDoor
open Go.RowKit
set_option maxRecDepth 100000

/-- The value is a slice of at most L words, the number p. -/
def NatV (w : World) (v : Value) (p : Int) (L : Nat) : Prop := ∃ (A : Option Addr) (n c : Nat) (us : List Int), v = .slice A n c ∧ us.length = n ∧ n ≤ c ∧ Rn w A us ∧ AllW us ∧ nv us = p ∧ n ≤ L
/-- And no word at its end is nought. -/
def NatC (w : World) (v : Value) (p : Int) (L : Nat) : Prop := ∃ (A : Option Addr) (n c : Nat) (us : List Int), v = .slice A n c ∧ us.length = n ∧ n ≤ c ∧ Rn w A us ∧ IsNat p us ∧ n ≤ L
theorem NatC.v {w : World} {v : Value} {p : Int} {L : Nat} (h : NatC w v p L) : NatV w v p L := by
  obtain ⟨A, n, c, us, e, hn, hc, hr, hi, hl⟩ := h
  exact ⟨A, n, c, us, e, hn, hc, hr, hi.all, hi.val, hl⟩
theorem NatV.below {w w' : World} {v : Value} {p : Int} {L : Nat} (h : NatV w v p L) (hb : Below w.heap.size w w') : NatV w' v p L := by
  obtain ⟨A, n, c, us, e, hn, hc, hr, hi⟩ := h
  exact ⟨A, n, c, us, e, hn, hc, hr.below hb (Nat.le_refl _), hi⟩
theorem NatC.below {w w' : World} {v : Value} {p : Int} {L : Nat} (h : NatC w v p L) (hb : Below w.heap.size w w') : NatC w' v p L := by
  obtain ⟨A, n, c, us, e, hn, hc, hr, hi⟩ := h
  exact ⟨A, n, c, us, e, hn, hc, hr.below hb (Nat.le_refl _), hi⟩
theorem NatV.alloc {w : World} {v : Value} {p : Int} {L : Nat} (h : NatV w v p L) (o : Obj) : NatV (w.alloc o) v p L := h.below (bel_alloc (Below.refl _ _) o)
theorem NatC.alloc {w : World} {v : Value} {p : Int} {L : Nat} (h : NatC w v p L) (o : Obj) : NatC (w.alloc o) v p L := h.below (bel_alloc (Below.refl _ _) o)
theorem NatV.mono {w : World} {v : Value} {p : Int} {L M : Nat} (h : NatV w v p L) (k : L ≤ M) : NatV w v p M := by
  obtain ⟨A, n, c, us, e, hn, hc, hr, ha, hv, hl⟩ := h
  exact ⟨A, n, c, us, e, hn, hc, hr, ha, hv, Nat.le_trans hl k⟩
theorem NatC.mono {w : World} {v : Value} {p : Int} {L M : Nat} (h : NatC w v p L) (k : L ≤ M) : NatC w v p M := by
  obtain ⟨A, n, c, us, e, hn, hc, hr, hi, hl⟩ := h
  exact ⟨A, n, c, us, e, hn, hc, hr, hi, Nat.le_trans hl k⟩
theorem NatV.nonneg {w : World} {v : Value} {p : Int} {L : Nat} (h : NatV w v p L) : 0 ≤ p := by
  obtain ⟨A, n, c, us, e, hn, hc, hr, ha, hv, hl⟩ := h
  rw [← hv]
  exact nv_nonneg _ ha
theorem NatV.lt {w : World} {v : Value} {p : Int} {L : Nat} (h : NatV w v p L) : p < 2 ^ (32 * L) := by
  obtain ⟨A, n, c, us, e, hn, hc, hr, ha, hv, hl⟩ := h
  rw [← hv]
  have := nv_lt us ha
  have := pow_mono (32 * us.length) (32 * L) (by omega)
  omega
theorem NatC.nonneg {w : World} {v : Value} {p : Int} {L : Nat} (h : NatC w v p L) : 0 ≤ p := h.v.nonneg
theorem NatC.lt {w : World} {v : Value} {p : Int} {L : Nat} (h : NatC w v p L) : p < 2 ^ (32 * L) := h.v.lt
theorem NatV.form {w : World} {v : Value} {p : Int} {L : Nat} (h : NatV w v p L) : ∃ A n c, v = .slice A n c := by
  obtain ⟨A, n, c, us, e, _⟩ := h
  exact ⟨A, n, c, e⟩
theorem NatC.form {w : World} {v : Value} {p : Int} {L : Nat} (h : NatC w v p L) : ∃ A n c, v = .slice A n c := h.v.form
/-- A value came back of which P holds; nothing that was there has changed. -/
def RetV (P : World → Value → Prop) (w : World) (e : Ending) (w' : World) : Prop := ∃ v, P w' v ∧ e = .returned v ∧ Below w.heap.size w w'
theorem RetN.v {p : Int} {L : Nat} {w : World} {e : Ending} {w' : World} (hp : p < 2 ^ (32 * L)) (h : RetN p w e w') : RetV (fun w v => NatC w v p L) w e w' := by
  obtain ⟨us, A, n, c, hi, hn, e1, hc, hr, -, hb⟩ := h
  exact ⟨_, ⟨A, n, c, us, rfl, hn, hc, hr, hi, by rw [← hn]; exact hi.le hp⟩, e1, hb⟩

section
variable {w : World} {x y : Value} {p q : Int} {L M : Nat}
theorem nmulV (h : NatV w x p L) (k : NatV w y q M) (hL : L ≤ 1048576) (hM : M ≤ 1048576) : Calls Tryd.prog 43 #[x, y] w (RetV (fun w v => NatC w v (p * q) (L + M)) w) := by
  have b := mul_bd h.nonneg h.lt k.lt rfl
  obtain ⟨A, n, c, us, rfl, hn, hc, hr, ha, hv, hl⟩ := h
  obtain ⟨B, m, d, vs, rfl, hm, hd, hs, hb, hw, hk⟩ := k
  refine (nmul_any A B n m c d us vs w hn hm hc hd hr hs ha hb (by omega) (by omega)).mono fun e w' r => ?_
  rw [hv, hw] at r
  exact r.v b
theorem naddV (h : NatV w x p L) (k : NatV w y q M) (hL : L ≤ 1048576) (hM : M ≤ 1048576) : Calls Tryd.prog 64 #[x, y] w (RetV (fun w v => NatC w v (p + q) (L + M + 1)) w) := by
  have b : p + q < 2 ^ (32 * (L + M + 1)) := add_bd h.lt k.lt (by omega) (by omega)
  obtain ⟨A, n, c, us, rfl, hn, hc, hr, ha, hv, hl⟩ := h
  obtain ⟨B, m, d, vs, rfl, hm, hd, hs, hb, hw, hk⟩ := k
  refine (nadd_any A B n m c d us vs w hn hm hr hs ha hb (by omega) (by omega)).mono fun e w' r => ?_
  rw [hv, hw] at r
  exact r.v b
theorem naddL (h : NatV w x p L) (k : NatV w y q L) (hL : L ≤ 1048576) : Calls Tryd.prog 64 #[x, y] w (RetV (fun w v => NatC w v (p + q) (L + 1)) w) := by
  have b : p + q < 2 ^ (32 * (L + 1)) := add_bd h.lt k.lt (by omega) (by omega)
  obtain ⟨A, n, c, us, rfl, hn, hc, hr, ha, hv, hl⟩ := h
  obtain ⟨B, m, d, vs, rfl, hm, hd, hs, hb, hw, hk⟩ := k
  refine (nadd_any A B n m c d us vs w hn hm hr hs ha hb (by omega) (by omega)).mono fun e w' r => ?_
  rw [hv, hw] at r
  exact r.v b
/-- A difference, and whether there is one. -/
def RetSubV (p q : Int) (L : Nat) (w : World) (e : Ending) (w' : World) : Prop := ∃ v, NatC w' v (if q ≤ p then p - q else 0) L ∧ e = .returned (.tuple #[v, .bool (decide (q ≤ p))]) ∧ Below w.heap.size w w'
theorem nsubV (h : NatV w x p L) (k : NatV w y q M) (hL : L ≤ 1048576) (hM : M ≤ 1048576) : Calls Tryd.prog 65 #[x, y] w (RetSubV p q L w) := by
  have b1 := h.lt
  have b0 := h.nonneg
  have b2 := k.nonneg
  obtain ⟨A, n, c, us, rfl, hn, hc, hr, ha, hv, hl⟩ := h
  obtain ⟨B, m, d, vs, rfl, hm, hd, hs, hb, hw, hk⟩ := k
  refine (nsub_any A B n m c d us vs w hn hm hc hd hr hs ha hb (by omega) (by omega)).mono fun e w' r => ?_
  rw [hv, hw] at r
  obtain ⟨ws, A', n', c', ok, rfl, hi, hn', e1, hc', hr', -, hb'⟩ := r
  refine ⟨_, ⟨A', n', c', ws, rfl, hn', hc', hr', hi, ?_⟩, e1, hb'⟩
  rw [← hn']
  exact hi.le (by split <;> omega)
theorem ncmpV (h : NatV w x p L) (k : NatV w y q M) (hL : L ≤ 1048576) (hM : M ≤ 1048576) : Calls Tryd.prog 54 #[x, y] w fun e w' => e = .returned (.int .i64 (cmpI p q)) ∧ Below w.heap.size w w' := by
  obtain ⟨A, n, c, us, rfl, hn, hc, hr, ha, hv, hl⟩ := h
  obtain ⟨B, m, d, vs, rfl, hm, hd, hs, hb, hw, hk⟩ := k
  have r := ncmp_any A B n m c d us vs w hn hm hc hd hr hs ha hb (by omega) (by omega)
  rw [hv, hw] at r
  exact r
theorem nlenV (h : NatV w x p L) (hL : L ≤ 1048576) : Calls Tryd.prog 56 #[x] w fun e w' => e = .returned (.int .i64 (blen p)) ∧ w = w' := by
  obtain ⟨A, n, c, us, rfl, hn, hc, hr, ha, hv, hl⟩ := h
  have r := nlen_any A n c us w hn hc hr ha (by omega)
  rw [hv] at r
  exact r
theorem ngcdV (h : NatV w x p L) (k : NatV w y q L) (hL : L ≤ 262144) (hT : TabOk w) : Calls Tryd.prog 67 #[x, y] w (RetV (fun w v => NatC w v (gcdI p q) L) w) := by
  have b := gcd_bd h.nonneg k.nonneg h.lt k.lt
  obtain ⟨A, n, c, us, rfl, hn, hc, hr, ha, hv, hl⟩ := h
  obtain ⟨B, m, d, vs, rfl, hm, hd, hs, hb, hw, hk⟩ := k
  refine (ngcd_any A B n m c d us vs w hn hm hc hd hr hs ha hb (by omega) (by omega) hT).mono fun e w' r => ?_
  rw [hv, hw] at r
  exact r.v b
/-- A quotient, what is left, no error. -/
def RetDivV (p q : Int) (L M : Nat) (w : World) (e : Ending) (w' : World) : Prop := ∃ v u, NatC w' v (p / q) L ∧ NatC w' u (p % q) M ∧ e = .returned (.tuple #[v, u, .int .i64 0]) ∧ Below w.heap.size w w'
theorem ndivV (h : NatV w x p L) (k : NatV w y q M) (hL : L ≤ 1048576) (hM : M ≤ 1048576) (h0 : q ≠ 0) : Calls Tryd.prog 68 #[x, y] w (RetDivV p q L M w) := by
  have b1 := h.lt
  have b0 := h.nonneg
  have b2 := k.nonneg
  have b3 := k.lt
  have b4 := Int.ediv_le_self q b0
  have b5 := Int.emod_lt_of_pos p (show 0 < q by omega)
  obtain ⟨A, n, c, us, rfl, hn, hc, hr, ha, hv, hl⟩ := h
  obtain ⟨B, m, d, vs, rfl, hm, hd, hs, hb, hw, hk⟩ := k
  refine (ndiv_pos A B n m c d us vs w hn hm hc hd hr hs ha hb (by omega) (by omega) (by rw [hw]; exact h0)).mono fun e w' r => ?_
  rw [hv, hw] at r
  obtain ⟨us', vs', A', B', n', m', c', d', i1, i2, n1, n2, e1, c1, c2, r1, r2, -, -, hb'⟩ := r
  exact ⟨_, _, ⟨A', n', c', us', rfl, n1, c1, r1, i1, by rw [← n1]; exact i1.le (by omega)⟩, ⟨B', m', d', vs', rfl, n2, c2, r2, i2, by rw [← n2]; exact i2.le (by omega)⟩, e1, hb'⟩
theorem ntextV (h : NatV w x p L) (hL : L ≤ 1048576) : Calls Tryd.prog 57 #[x] w fun e w' => (∃ s : ByteArray, IsText p s.data.toList ∧ e = .returned (.string s)) ∧ Below w.heap.size w w' := by
  obtain ⟨A, n, c, us, rfl, hn, hc, hr, ha, hv, hl⟩ := h
  have r := ntext_any A n c us w hn hc hr ha (by omega)
  rw [hv] at r
  exact r
theorem newV (a : Int) (ha : Word a) (w : World) : Calls Tryd.prog 39 #[.int .u64 a] w (RetV (fun w v => NatC w v a 2) w) :=
  (new_any a ha w).mono fun _ _ r => r.v (by rw [show (2 : Int) ^ (32 * 2) = 18446744073709551616 by decide]; exact ha.2)
end

/-- The value is a row of at most L bits, the number p. -/
def RowV (w : World) (v : Value) (p : Int) (L : Nat) : Prop := ∃ (A : Option Addr) (n c : Nat) (xs : List Bool), v = .slice A n c ∧ xs.length = n ∧ n ≤ c ∧ Rd w A xs ∧ val xs = p ∧ n ≤ L
/-- And there is no nought ahead. -/
def RowC (w : World) (v : Value) (p : Int) (L : Nat) : Prop := ∃ (A : Option Addr) (n c : Nat) (xs : List Bool), v = .slice A n c ∧ xs.length = n ∧ n ≤ c ∧ Rd w A xs ∧ val xs = p ∧ (n : Int) = blen p ∧ n ≤ L
theorem RowC.v {w : World} {v : Value} {p : Int} {L : Nat} (h : RowC w v p L) : RowV w v p L := by
  obtain ⟨A, n, c, us, e, hn, hc, hr, hi, _, hl⟩ := h
  exact ⟨A, n, c, us, e, hn, hc, hr, hi, hl⟩
theorem RowV.below {w w' : World} {v : Value} {p : Int} {L : Nat} (h : RowV w v p L) (hb : Below w.heap.size w w') : RowV w' v p L := by
  obtain ⟨A, n, c, us, e, hn, hc, hr, hi⟩ := h
  exact ⟨A, n, c, us, e, hn, hc, hr.below hb (Nat.le_refl _), hi⟩
theorem RowC.below {w w' : World} {v : Value} {p : Int} {L : Nat} (h : RowC w v p L) (hb : Below w.heap.size w w') : RowC w' v p L := by
  obtain ⟨A, n, c, us, e, hn, hc, hr, hi⟩ := h
  exact ⟨A, n, c, us, e, hn, hc, hr.below hb (Nat.le_refl _), hi⟩
theorem RowV.alloc {w : World} {v : Value} {p : Int} {L : Nat} (h : RowV w v p L) (o : Obj) : RowV (w.alloc o) v p L := h.below (bel_alloc (Below.refl _ _) o)
theorem RowC.alloc {w : World} {v : Value} {p : Int} {L : Nat} (h : RowC w v p L) (o : Obj) : RowC (w.alloc o) v p L := h.below (bel_alloc (Below.refl _ _) o)
theorem RowV.mono {w : World} {v : Value} {p : Int} {L M : Nat} (h : RowV w v p L) (k : L ≤ M) : RowV w v p M := by
  obtain ⟨A, n, c, us, e, hn, hc, hr, hv, hl⟩ := h
  exact ⟨A, n, c, us, e, hn, hc, hr, hv, Nat.le_trans hl k⟩
theorem RowC.mono {w : World} {v : Value} {p : Int} {L M : Nat} (h : RowC w v p L) (k : L ≤ M) : RowC w v p M := by
  obtain ⟨A, n, c, us, e, hn, hc, hr, hv, hb, hl⟩ := h
  exact ⟨A, n, c, us, e, hn, hc, hr, hv, hb, Nat.le_trans hl k⟩
theorem RowV.nonneg {w : World} {v : Value} {p : Int} {L : Nat} (h : RowV w v p L) : 0 ≤ p := by
  obtain ⟨A, n, c, us, e, hn, hc, hr, hv, hl⟩ := h
  rw [← hv]
  exact val_nonneg _
theorem RowV.lt {w : World} {v : Value} {p : Int} {L : Nat} (h : RowV w v p L) : p < 2 ^ L := by
  obtain ⟨A, n, c, us, e, hn, hc, hr, hv, hl⟩ := h
  rw [← hv]
  have := val_lt us
  have := pow_mono us.length L (by omega)
  omega
theorem RowV.form {w : World} {v : Value} {p : Int} {L : Nat} (h : RowV w v p L) : ∃ A n c, v = .slice A n c := by
  obtain ⟨A, n, c, us, e, _⟩ := h
  exact ⟨A, n, c, e⟩
theorem RowC.form {w : World} {v : Value} {p : Int} {L : Nat} (h : RowC w v p L) : ∃ A n c, v = .slice A n c := h.v.form
theorem RowC.nonneg {w : World} {v : Value} {p : Int} {L : Nat} (h : RowC w v p L) : 0 ≤ p := h.v.nonneg

section
variable {w : World} {x y : Value} {p q : Int} {L M : Nat}
theorem rbitsV (h : NatV w x p L) (hL : L ≤ 32768) : Calls Tryd.prog 32 #[x] w (RetV (fun w v => RowC w v p (32 * L)) w) := by
  have b1 := h.lt
  have b0 := h.nonneg
  obtain ⟨A, n, c, us, rfl, hn, hc, hr, ha, hv, hl⟩ := h
  refine (rbits_any A n c us w hn hr ha (by omega)).mono fun e w' r => ?_
  rw [hv] at r
  obtain ⟨xs, A', c', pp, e1, hc', _, hr', hb'⟩ := r
  exact ⟨_, ⟨A', xs.length, c', xs, rfl, rfl, hc', hr', pp.val, pp.len, pp.le b0 b1⟩, e1, hb'⟩
theorem raddV (h : RowV w x p L) (k : RowV w y q M) (hL : L ≤ 1048576) (hM : M ≤ 1048576) : Calls Tryd.prog 46 #[x, y] w (RetV (fun w v => RowV w v (p + q) (L + M + 1)) w) := by
  obtain ⟨A, n, c, us, rfl, hn, hc, hr, hv, hl⟩ := h
  obtain ⟨B, m, d, vs, rfl, hm, hd, hs, hw, hk⟩ := k
  refine (radd_any A B n m c d us vs w hn hm hr hs (by omega) (by omega)).mono fun e w' r => ?_
  obtain ⟨xs, A', c', ⟨p1, _, p3⟩, e1, hc', _, hr', hb'⟩ := r
  exact ⟨_, ⟨A', xs.length, c', xs, rfl, rfl, hc', hr', by rw [p1, hv, hw], by omega⟩, e1, hb'⟩
theorem rmulV (h : RowV w x p L) (k : RowV w y q M) (hL : L ≤ 1048576) (hM : M ≤ 1048576) : Calls Tryd.prog 45 #[x, y] w (RetV (fun w v => RowV w v (p * q) (L + M + 1)) w) := by
  obtain ⟨A, n, c, us, rfl, hn, hc, hr, hv, hl⟩ := h
  obtain ⟨B, m, d, vs, rfl, hm, hd, hs, hw, hk⟩ := k
  refine (rmul_any A B n m c d us vs w hn hm hr hs (by omega) (by omega)).mono fun e w' r => ?_
  obtain ⟨xs, A', c', ⟨p1, p3⟩, e1, hc', _, hr', hb'⟩ := r
  exact ⟨_, ⟨A', xs.length, c', xs, rfl, rfl, hc', hr', by rw [p1, hv, hw], by omega⟩, e1, hb'⟩
theorem rcmpV (h : RowV w x p L) (k : RowV w y q M) (hL : L ≤ 1048576) (hM : M ≤ 1048576) : Calls Tryd.prog 47 #[x, y] w fun e w' => e = .returned (.int .i64 (cmpI p q)) ∧ w = w' := by
  obtain ⟨A, n, c, us, rfl, hn, hc, hr, hv, hl⟩ := h
  obtain ⟨B, m, d, vs, rfl, hm, hd, hs, hw, hk⟩ := k
  have r := rcmp_any A B n m c d us vs w hn hm hr hs (by omega) (by omega)
  rw [hv, hw] at r
  exact r
theorem rlenV (h : RowV w x p L) (hL : L ≤ 1048576) : Calls Tryd.prog 29 #[x] w fun e w' => e = .returned (.int .i64 (blen p)) ∧ w = w' := by
  obtain ⟨A, n, c, us, rfl, hn, hc, hr, hv, hl⟩ := h
  have r := rlen_any A n c us w hn hr (by omega)
  rw [hv] at r
  exact r
theorem rgcdV (h : RowV w x p L) (k : RowV w y q L) (hL : L ≤ 1048576) : Calls Tryd.prog 51 #[x, y] w (RetV (fun w v => RowV w v (gcdI p q) L) w) := by
  obtain ⟨A, n, c, us, rfl, hn, hc, hr, hv, hl⟩ := h
  obtain ⟨B, m, d, vs, rfl, hm, hd, hs, hw, hk⟩ := k
  refine (rgcd_any A B n m c d us vs w hn hm hc hd hr hs L hL hl hk).mono fun e w' r => ?_
  rw [hv, hw] at r
  obtain ⟨xs, A', c', ⟨p1, p3⟩, e1, hc', hr', hb'⟩ := r
  exact ⟨_, ⟨A', xs.length, c', xs, rfl, rfl, hc', hr', p1, by omega⟩, e1, hb'⟩
/-- A quotient, and what is left. -/
def RetDivR (p q : Int) (L M : Nat) (w : World) (e : Ending) (w' : World) : Prop := ∃ v u, RowV w' v (p / q) L ∧ RowV w' u (p % q) M ∧ e = .returned (.tuple #[v, u]) ∧ Below w.heap.size w w'
theorem rdivV (h : RowV w x p L) (k : RowV w y q M) (hL : L ≤ 1048576) (hM : M ≤ 1048576) (h0 : 0 < q) : Calls Tryd.prog 52 #[x, y] w (RetDivR p q L M w) := by
  obtain ⟨A, n, c, us, rfl, hn, hc, hr, hv, hl⟩ := h
  obtain ⟨B, m, d, vs, rfl, hm, hd, hs, hw, hk⟩ := k
  refine (rdiv_any A B n m c d us vs w hn hm hr hs (by omega) (by omega) (by rw [hw]; exact h0)).mono fun e w' r => ?_
  rw [hv, hw] at r
  obtain ⟨xs, ys, A', B', c', d', ⟨p1, p2, p3, p4, p5⟩, e1, hc', hd', hr', hs', hb'⟩ := r
  obtain ⟨q1, q2⟩ := div_of p1 p2 p3
  exact ⟨_, _, ⟨A', xs.length, c', xs, rfl, rfl, hc', hr', q1.symm, by omega⟩, ⟨B', ys.length, d', ys, rfl, rfl, hd', hs', q2.symm, by omega⟩, e1, hb'⟩
theorem rtextV (h : RowV w x p L) (hL : L ≤ 100000) : Calls Tryd.prog 58 #[x] w fun e w' => (∃ s : ByteArray, IsText p s.data.toList ∧ e = .returned (.string s)) ∧ Below w.heap.size w w' := by
  obtain ⟨A, n, c, us, rfl, hn, hc, hr, hv, hl⟩ := h
  have r := rtext_any A n c us w hn hr L hL hl
  rw [hv] at r
  exact r
theorem isrV (h : NatC w x p L) (k : RowV w y p M) (hL : L ≤ 1048576) (hM : M ≤ 1048576) : Calls Tryd.prog 40 #[x, y] w fun e w' => e = .returned (.bool true) ∧ Below w.heap.size w w' := by
  obtain ⟨A, n, c, us, rfl, hn, hc, hr, hi, hl⟩ := h
  obtain ⟨B, m, d, vs, rfl, hm, hd, hs, hw, hk⟩ := k
  exact isr_any A B n m c d us vs w hn hm hr hs (by omega) (by omega) (by rw [hw]; exact hi)
end

/-- The three values are a fraction of the program, the number r. -/
def RV (w : World) (x y z : Value) (L : Nat) (r : Rat) : Prop := ∃ (s : Bool) (p q : Int), x = .bool s ∧ NatV w y p L ∧ NatV w z q L ∧ rv s p q = r
/-- And it is in lowest terms, without words of nought. -/
def RC (w : World) (x y z : Value) (L : Nat) (r : Rat) : Prop := x = .bool (rs r) ∧ NatC w y (rp r) L ∧ NatC w z (rq r) L
theorem RC.v {w : World} {x y z : Value} {L : Nat} {r : Rat} (h : RC w x y z L r) : RV w x y z L r := ⟨_, _, _, h.1, h.2.1.v, h.2.2.v, rv_of r⟩
theorem RV.form {w : World} {x y z : Value} {L : Nat} {r : Rat} (h : RV w x y z L r) : ∃ s A n c B m d, x = .bool s ∧ y = .slice A n c ∧ z = .slice B m d := by
  obtain ⟨s, p, q, e, h1, h2, _⟩ := h
  obtain ⟨A, n, c, e1⟩ := h1.form
  obtain ⟨B, m, d, e2⟩ := h2.form
  exact ⟨s, A, n, c, B, m, d, e, e1, e2⟩
theorem RC.form {w : World} {x y z : Value} {L : Nat} {r : Rat} (h : RC w x y z L r) : ∃ s A n c B m d, x = .bool s ∧ y = .slice A n c ∧ z = .slice B m d := h.v.form
theorem RV.below {w w' : World} {x y z : Value} {L : Nat} {r : Rat} (h : RV w x y z L r) (hb : Below w.heap.size w w') : RV w' x y z L r := by
  obtain ⟨s, p, q, e, h1, h2, h3⟩ := h
  exact ⟨s, p, q, e, h1.below hb, h2.below hb, h3⟩
theorem RC.below {w w' : World} {x y z : Value} {L : Nat} {r : Rat} (h : RC w x y z L r) (hb : Below w.heap.size w w') : RC w' x y z L r := ⟨h.1, h.2.1.below hb, h.2.2.below hb⟩
theorem RV.mono {w : World} {x y z : Value} {L M : Nat} {r : Rat} (h : RV w x y z L r) (k : L ≤ M) : RV w x y z M r := by
  obtain ⟨s, p, q, e, h1, h2, h3⟩ := h
  exact ⟨s, p, q, e, h1.mono k, h2.mono k, h3⟩
theorem RC.mono {w : World} {x y z : Value} {L M : Nat} {r : Rat} (h : RC w x y z L r) (k : L ≤ M) : RC w x y z M r := ⟨h.1, h.2.1.mono k, h.2.2.mono k⟩
/-- A fraction of the program came back, in lowest terms. -/
def RetR (r : Rat) (L : Nat) (w : World) (e : Ending) (w' : World) : Prop := ∃ x y z, RC w' x y z L r ∧ e = .returned (.agg #[x, y, z]) ∧ Below w.heap.size w w'
/-- With an error's number beside it. -/
def RetRE (r : Rat) (L : Nat) (n : Int) (w : World) (e : Ending) (w' : World) : Prop := ∃ x y z, RC w' x y z L r ∧ e = .returned (.tuple #[.agg #[x, y, z], .int .i64 n]) ∧ Below w.heap.size w w'
/-- The three values are a fraction of the document, the number r, in lowest terms. -/
def QC (w : World) (x y z : Value) (L : Nat) (r : Rat) : Prop := x = .bool (rs r) ∧ RowC w y (rp r) L ∧ RowC w z (rq r) L
theorem QC.form {w : World} {x y z : Value} {L : Nat} {r : Rat} (h : QC w x y z L r) : ∃ s A n c B m d, x = .bool s ∧ y = .slice A n c ∧ z = .slice B m d := by
  obtain ⟨e, h1, h2⟩ := h
  obtain ⟨A, n, c, e1⟩ := h1.form
  obtain ⟨B, m, d, e2⟩ := h2.form
  exact ⟨_, A, n, c, B, m, d, e, e1, e2⟩
theorem QC.below {w w' : World} {x y z : Value} {L : Nat} {r : Rat} (h : QC w x y z L r) (hb : Below w.heap.size w w') : QC w' x y z L r := ⟨h.1, h.2.1.below hb, h.2.2.below hb⟩
theorem QC.mono {w : World} {x y z : Value} {L M : Nat} {r : Rat} (h : QC w x y z L r) (k : L ≤ M) : QC w x y z M r := ⟨h.1, h.2.1.mono k, h.2.2.mono k⟩
def RetQ (r : Rat) (L : Nat) (w : World) (e : Ending) (w' : World) : Prop := ∃ x y z, QC w' x y z L r ∧ e = .returned (.agg #[x, y, z]) ∧ Below w.heap.size w w'

/-- A struct's three cells are written anew. -/
def wput (w : World) (g : Nat) (a b c : Value) : World := ((w.setCell ⟨g, 0, none⟩ a).setCell ⟨g, 1, none⟩ b).setCell ⟨g, 2, none⟩ c
section
variable {w w' : World} {g : Nat} {t : TypeId} {b0 : Bool} {A0 B0 : Option Addr} {n0 c0 m0 d0 : Nat}
theorem Rn.put3 {A : Option Addr} {us : List Int} (h : Rn w A us) (k : Blk w g t #[.bool b0, .slice A0 n0 c0, .slice B0 m0 d0]) (a b c : Value) : Rn (wput w g a b c) A us := by
  by_cases h0 : us = []
  · exact .inl h0
  · have hne : ∀ ad, A = some ad → g ≠ ad.block := by
      intro ad ha e
      obtain ⟨x, r, rfl⟩ : ∃ x r, us = x :: r := by
        cases us with
        | nil => exact absurd rfl h0
        | cons x r => exact ⟨x, r, rfl⟩
      obtain ⟨g', off, e1, _, hc⟩ := h.at_ (i := 0) (by simp)
      rw [e1] at ha
      injection ha with ha
      subst ha
      simp only at e
      subst e
      rw [k.cell] at hc
      rcases off with _ | _ | _ | off <;> simp at hc
    have f := fun (W : World) (hW : Rn W A us) (i : Nat) (u : Value) => hW.far (p := ⟨g, i, none⟩) (fun ad ha => hne ad ha) u
    exact f _ (f _ (f _ h 0 a) 1 b) 2 c
theorem Rn.put1 {A : Option Addr} {us : List Int} (h : Rn w A us) (k : Blk w g t #[.bool b0, .slice A0 n0 c0, .slice B0 m0 d0]) (i : Nat) (a : Value) : Rn (w.setCell ⟨g, i, none⟩ a) A us := by
  by_cases h0 : us = []
  · exact .inl h0
  · refine h.far (fun ad ha e => ?_) a
    obtain ⟨x, r, rfl⟩ : ∃ x r, us = x :: r := by
      cases us with
      | nil => exact absurd rfl h0
      | cons x r => exact ⟨x, r, rfl⟩
    obtain ⟨g', off, e1, _, hc⟩ := h.at_ (i := 0) (by simp)
    rw [e1] at ha
    injection ha with ha
    subst ha
    simp only at e
    subst e
    rw [k.cell] at hc
    rcases off with _ | _ | _ | off <;> simp at hc
theorem NatV.put1 {v : Value} {p : Int} {L : Nat} (h : NatV w v p L) (k : Blk w g t #[.bool b0, .slice A0 n0 c0, .slice B0 m0 d0]) (i : Nat) (a : Value) : NatV (w.setCell ⟨g, i, none⟩ a) v p L := by
  obtain ⟨A, n, c', us, e, hn, hc, hr, hi⟩ := h
  exact ⟨A, n, c', us, e, hn, hc, hr.put1 k i a, hi⟩
theorem NatV.put3 {v : Value} {p : Int} {L : Nat} (h : NatV w v p L) (k : Blk w g t #[.bool b0, .slice A0 n0 c0, .slice B0 m0 d0]) (a b c : Value) : NatV (wput w g a b c) v p L := by
  obtain ⟨A, n, c', us, e, hn, hc, hr, hi⟩ := h
  exact ⟨A, n, c', us, e, hn, hc, hr.put3 k a b c, hi⟩
theorem NatC.put3 {v : Value} {p : Int} {L : Nat} (h : NatC w v p L) (k : Blk w g t #[.bool b0, .slice A0 n0 c0, .slice B0 m0 d0]) (a b c : Value) : NatC (wput w g a b c) v p L := by
  obtain ⟨A, n, c', us, e, hn, hc, hr, hi⟩ := h
  exact ⟨A, n, c', us, e, hn, hc, hr.put3 k a b c, hi⟩
theorem Rd.put3 {cs : Array Value} {A : Option Addr} {us : List Bool} (h : Rd w A us) (k : Blk w g t cs) (ht : t ≠ 4) (a b c : Value) : Rd (wput w g a b c) A us := by
  rcases h with h0 | ⟨g', off, e, hg, hc⟩
  · exact .inl h0
  · have hne : ∀ ad, A = some ad → g ≠ ad.block := by
      intro ad ha e1
      rw [e] at ha
      injection ha with ha
      subst ha
      simp only at e1
      subst e1
      obtain ⟨cs', f, hh⟩ := hg
      unfold Blk at k
      rw [k] at hh
      injection hh with hh
      injection hh with _ h2 _
      exact ht h2
    have f := fun (W : World) (hW : Rd W A us) (i : Nat) (u : Value) => hW.far (p := ⟨g, i, none⟩) (fun ad ha => hne ad ha) u
    exact f _ (f _ (f _ (.inr ⟨g', off, e, hg, hc⟩) 0 a) 1 b) 2 c
theorem RowV.put3 {cs : Array Value} {v : Value} {p : Int} {L : Nat} (h : RowV w v p L) (k : Blk w g t cs) (ht : t ≠ 4) (a b c : Value) : RowV (wput w g a b c) v p L := by
  obtain ⟨A, n, c', us, e, hn, hc, hr, hi⟩ := h
  exact ⟨A, n, c', us, e, hn, hc, hr.put3 k ht a b c, hi⟩
theorem RowC.put3 {cs : Array Value} {v : Value} {p : Int} {L : Nat} (h : RowC w v p L) (k : Blk w g t cs) (ht : t ≠ 4) (a b c : Value) : RowC (wput w g a b c) v p L := by
  obtain ⟨A, n, c', us, e, hn, hc, hr, hi⟩ := h
  exact ⟨A, n, c', us, e, hn, hc, hr.put3 k ht a b c, hi⟩
theorem Blk.put3 {x y z : Value} (k : Blk w g t #[x, y, z]) (a b c : Value) : Blk (wput w g a b c) g t #[a, b, c] := by
  have h1 := ((k.set_ 0 a).set_ 1 b).set_ 2 c
  unfold wput
  simpa using h1
theorem Blk.put3_far {cs : Array Value} {g' : Nat} {t' : TypeId} (k : Blk w g' t' cs) (hg : g' ≠ g) (a b c : Value) : Blk (wput w g a b c) g' t' cs :=
  ((k.far (p := ⟨g, 0, none⟩) hg a).far (p := ⟨g, 1, none⟩) hg b).far (p := ⟨g, 2, none⟩) hg c
theorem bel_put3 {B : Nat} (h : Below B w w') (hg : B ≤ g) (a b c : Value) : Below B w (wput w' g a b c) :=
  ((h.setCell (p := ⟨g, 0, none⟩) hg a).setCell (p := ⟨g, 1, none⟩) hg b).setCell (p := ⟨g, 2, none⟩) hg c
theorem RV.put3 {x y z : Value} {L : Nat} {r : Rat} (h : RV w x y z L r) (k : Blk w g t #[.bool b0, .slice A0 n0 c0, .slice B0 m0 d0]) (a b c : Value) : RV (wput w g a b c) x y z L r := by
  obtain ⟨s, p, q, e, h1, h2, h3⟩ := h
  exact ⟨s, p, q, e, h1.put3 k a b c, h2.put3 k a b c, h3⟩
theorem RC.put3 {x y z : Value} {L : Nat} {r : Rat} (h : RC w x y z L r) (k : Blk w g t #[.bool b0, .slice A0 n0 c0, .slice B0 m0 d0]) (a b c : Value) : RC (wput w g a b c) x y z L r := ⟨h.1, h.2.1.put3 k a b c, h.2.2.put3 k a b c⟩
theorem QC.put3 {cs : Array Value} {x y z : Value} {L : Nat} {r : Rat} (h : QC w x y z L r) (k : Blk w g t cs) (ht : t ≠ 4) (a b c : Value) : QC (wput w g a b c) x y z L r := ⟨h.1, h.2.1.put3 k ht a b c, h.2.2.put3 k ht a b c⟩
/-- The block of a struct: three cells, none frozen. -/
theorem Blk.three {a b c : Value} (h : Blk w g t #[a, b, c]) : w.cell? ⟨g, 0, none⟩ = some a ∧ w.cell? ⟨g, 1, none⟩ = some b ∧ w.cell? ⟨g, 2, none⟩ = some c ∧ w.frozen? ⟨g, 0, none⟩ = false ∧ w.frozen? ⟨g, 1, none⟩ = false ∧ w.frozen? ⟨g, 2, none⟩ = false :=
  ⟨h.cell 0, h.cell 1, h.cell 2, h.frozen 0, h.frozen 1, h.frozen 2⟩
end
end Go.Proofs.YtaollppieonmbaaDoor
