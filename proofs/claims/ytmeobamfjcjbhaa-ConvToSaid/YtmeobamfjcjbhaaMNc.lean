/-
  Contracts of nat's divLong and of slices.Clone at numbers. Conditions: at most 2^20 words, each of 32 bits; no noughts at the ends; the divisor is not nought and has no more words than the dividend.
  Contracts of slices.Clone at numbers and of nat's Div. Conditions: at most 2^20 words, each of 32 bits.
  Contracts of math/bits.TrailingZeros32, of nat's twos and of Gcd: the greatest common divisor. Conditions: at most 2^19 words, each of 32 bits; the table of math/bits stands in its variable.
-/
import Derived.Test.YtmeobamfjcjbhaaMNb
import Derived.Laws.Cover3
import Derived.Lib.TrailingZeros
namespace Go.Proofs.Ytmeobamfjcjbhaa
open Go.RowKit
set_option maxRecDepth 100000

/-- The quotient's words from K on are found; zs is what is left. -/
structure LongTo (U V : Int) (zs qs : List Int) (L nq K : Nat) : Prop where
  lz : zs.length = L
  az : AllW zs
  lq : qs.length = nq
  aq : AllW qs
  eq : nv zs + nv qs * V = U
  lt : nv zs < V * 2 ^ (32 * K)
  low : ∀ j, j < K → qs.getD j 0 = 0
theorem LongTo.next {U : Int} {vs zs qs us : List Int} {L nq i : Nat} {q : Int} (h : LongTo U (nv vs) zs qs L nq (i + 1)) (hi : i < nq) (hq : W32 q) (hl : us.length = zs.length) (ha : AllW us) (e : nv zs = nv us + 2 ^ (32 * i) * (nv vs * q)) (hlt : nv us < nv vs * 2 ^ (32 * i)) : LongTo U (nv vs) us (qs.set i q) L nq i := by
  obtain ⟨h1, h2, h3, h4, h5, h6, h7⟩ := h
  refine ⟨by rw [hl, h1], ha, by rw [List.length_set, h3], h4.set _ hq, ?_, hlt, fun j hj => ?_⟩
  · rw [nv_set _ _ _ (by omega), h7 i (by omega), Int.sub_zero, Int.add_mul, Int.mul_assoc, Int.mul_comm q]
    omega
  · rw [getD_set_ne _ _ _ _ (by omega)]
    exact h7 j (by omega)
theorem LongTo.done {U V : Int} {N : Nat} {zs qs : List Int} {L nq : Nat} (h : LongTo (2 ^ N * U) (2 ^ N * V) zs qs L nq 0) : nv qs = U / V ∧ nv zs / 2 ^ N = U % V := by
  obtain ⟨h1, h2, h3, h4, h5, h6, h7⟩ := h
  have p := pow_pos' N
  have z0 := nv_nonneg zs h2
  have z1 : nv zs < 2 ^ N * V := by simpa using h6
  have vp : 0 < 2 ^ N * V := by omega
  have e1 : nv qs = (2 ^ N * U) / (2 ^ N * V) := by
    rw [← h5, Int.add_mul_ediv_right _ _ (Int.ne_of_gt vp), Int.ediv_eq_zero_of_lt z0 z1, Int.zero_add]
  have e2 : nv zs = (2 ^ N * U) % (2 ^ N * V) := by
    rw [← h5, Int.add_mul_emod_self_right, Int.emod_eq_of_lt z0 z1]
  rw [Int.mul_ediv_mul_of_pos _ _ p] at e1
  rw [Int.mul_emod_mul_of_pos _ _ p] at e2
  refine ⟨e1, ?_⟩
  rw [e2, Int.mul_ediv_cancel_left _ (Int.ne_of_gt p)]

/-- A call came back with two numbers in memory of its own. -/
def RetN2 (q r : Int) (w : World) (e : Ending) (w' : World) : Prop :=
  ∃ (us vs : List Int) (A B : Option Addr) (n m c d : Nat), IsNat q us ∧ IsNat r vs ∧ us.length = n ∧ vs.length = m ∧ e = .returned (.tuple #[.slice A n c, .slice B m d]) ∧ n ≤ c ∧ m ≤ d ∧ Rn w' A us ∧ Rn w' B vs ∧ (∀ a, A = some a → w.heap.size ≤ a.block) ∧ (∀ a, B = some a → w.heap.size ≤ a.block) ∧ Below w.heap.size w w'

end Go.Proofs.Ytmeobamfjcjbhaa
namespace Go.Proofs.Ytmeobamfjcjbhaa
open Go.RowKit
set_option maxRecDepth 100000

/-- An append of words that are read onto a row of the call's own. -/
theorem run_append_words {P : Program} (w : World) (base : Nat) (t ty e : TypeId) (i : TypeInfo) (z : Value) (ht : P.underlying t = some (.slice e)) (hi : P.info? e = some i) (hz : i.zero = some z)
    (hsize : i.size = 1) (hby : i.bytes = 4) (hzs : z.cells.size = 1) (v : Value) (n : Nat) (xs : List Value) (hown : w.ownsRow base e 1 v n xs)
    (A : Option Addr) (c : Nat) (ys : List Int) (hr : Rn w A ys) (h63 : n + ys.length ≤ maxLen) (hbytes : (n + ys.length) * 4 ≤ 140737488355328) (hbase : base ≤ w.heap.size) :
    ∃ v' w', (Builtin.append_ #[t, t] ty #[v, .slice A ys.length c]).run P w = .ok v' w' ∧ w'.ownsRow base e 1 v' (n + ys.length) (xs ++ ys.map (Value.int .u32)) ∧ w.grownBy w' v.ownBlock := by
  rcases A with _ | ad
  · have hy : ys = [] := by
      rcases hr with h | ⟨g, off, h, _⟩
      · exact h
      · cases h
    subst hy
    refine ⟨v, w, ?_, by simpa using hown, World.grownBy.refl w _⟩
    rcases hown.2 with ⟨rfl, rfl⟩ | ⟨g, cap, cur, rfl, _, _, hnc, _⟩
    · simp [Builtin.append_, run_underlying ht, sizeOf, typeInfo, hi, Builtin.lenOf, Builtin.firstCells]
    · simp [Builtin.append_, run_underlying ht, sizeOf, typeInfo, hi, Builtin.lenOf, Builtin.firstCells, hnc, storeCells]
  · have hcells : ∀ j u, (ys.map (Value.int .u32))[j]? = some u → w.cell? (ad.add j) = some u := by
      intro j u hu
      rw [List.getElem?_map] at hu
      cases hj : ys[j]? with
      | none => rw [hj] at hu; cases hu
      | some b =>
        rw [hj] at hu
        injection hu with hu
        subst hu
        rcases hr with h | ⟨g, off, h, _, hc⟩
        · subst h; simp at hj
        · injection h with h
          subst h
          have := hc j b hj
          unfold Addr.add
          split
          · rename_i h0
            subst h0
            simpa using this
          · exact this
    have h1 : ∀ u ∈ ys.map (Value.int .u32), u.oneCell' = true := by
      intro u hu
      obtain ⟨b, _, rfl⟩ := List.mem_map.1 hu
      rfl
    obtain ⟨v', w', hrun, h2, h3, _, _⟩ := run_append_own_at (P := P) w base t ty e i z 1 4 ht hi hz hsize hby hzs (by decide) v n xs hown ad ys.length c (ys.map (Value.int .u32)) (by simp) hcells h1 h63 hbytes hbase
    exact ⟨v', w', hrun, h2, h3⟩
theorem wpList_append_words {P : Program} (w : World) {ops : Array Oper} {rest : List Oper} {o : Oper} {a : Act} {Q : Exit → Act → World → Prop} (hgd : o.guard = none) (s x : Operand) (t : TypeId)
    (ho : o.op = .call { callee := .builtin .append, args := #[s, x], argTypes := #[t, t] })
    (base : Nat) (e : TypeId) (i : TypeInfo) (z : Value) (ht : P.underlying t = some (.slice e)) (hi : P.info? e = some i) (hz : i.zero = some z)
    (hsize : i.size = 1) (hby : i.bytes = 4) (hzs : z.cells.size = 1) (v : Value) (n : Nat) (xs : List Value) (hs : a.eval s = v) (hown : w.ownsRow base e 1 v n xs)
    (A : Option Addr) (c m : Nat) (ys : List Int) (hm : ys.length = m) (hx : a.eval x = .slice A m c) (hr : Rn w A ys) (h63 : n + m ≤ maxLen) (hbytes : (n + m) * 4 ≤ 140737488355328) (hbase : base ≤ w.heap.size)
    (h : ∀ v' w', w'.ownsRow base e 1 v' (n + m) (xs ++ ys.map (Value.int .u32)) → w.grownBy w' v.ownBlock → wpList P ops Q rest (a.put o.dst v') w') : wpList P ops Q (o :: rest) a w := by
  subst hm
  refine wpList_plain hgd fun K hK => ?_
  obtain ⟨v', w', hrun, h2, h3⟩ := run_append_words (P := P) w base t o.type e i z ht hi hz hsize hby hzs v n xs hown A c ys hr h63 hbytes hbase
  unfold Oper.wp execOp
  simp only [ho, resolve, invoke, builtin, Sem.run_bind, Sem.run_pure, Result.andThen_ok, List.map_toArray, List.map_cons, List.map_nil, hs, hx, hrun]
  exact hK _ _ (h v' w' h2 h3)
/-- A row of the call's own, read. -/
theorem own_words {w : World} {base : Nat} {v : Value} {n : Nat} {ws : List Int} (h : w.ownsRow base 113 1 v n (ws.map (Value.int .u32))) : ws.length = n ∧ ∃ (A : Option Addr) (c : Nat), v = .slice A n c ∧ n ≤ c ∧ Rn w A ws ∧ ∀ a, A = some a → base ≤ a.block := by
  have hl : ws.length = n := by have := h.1; simpa using this
  refine ⟨hl, ?_⟩
  rcases h.2 with ⟨rfl, rfl⟩ | ⟨g, cap, cur, rfl, hb, hh, hc, hm, hs, ht⟩
  · have : ws = [] := List.eq_nil_of_length_eq_zero hl
    subst this
    exact ⟨none, 0, rfl, Nat.le_refl _, .inl rfl, fun a h => by cases h⟩
  · subst hl
    refine ⟨some ⟨g, 0, none⟩, cap, rfl, hc, ?_, fun a h => by injection h with h; subst h; exact hb⟩
    by_cases hx : ws = []
    · exact .inl hx
    · refine .inr ⟨g, 0, rfl, ?_, fun i b hi => ?_⟩
      · rcases Nat.lt_or_ge g w.heap.size with hlt | hge
        · exact hlt
        · rw [Array.getElem?_eq_none hge] at hh; cases hh
      · rw [cell_of_row w g (0 + i) cur 113 (0, 0) hh]
        have e : (cur.toList.take (ws.length * 1))[i]? = some (.int .u32 b) := by rw [ht, List.getElem?_map, hi]; rfl
        rw [List.getElem?_take] at e
        split at e
        · simpa using e
        · cases e
theorem own_grown1 {B : Nat} {w wr w1 : World} {t : TypeId} {v : Value} {n : Nat} {xs : List Value} (HB : Below B w wr) (hB : B ≤ wr.heap.size) (own : wr.ownsRow B t 1 v n xs) (hg : wr.grownBy w1 v.ownBlock) : Below B w w1 := by
  refine HB.grown hg hB fun g e => ?_
  rcases own.2 with ⟨rfl, _⟩ | ⟨g', cap, cur, rfl, hb, _⟩
  · cases e
  · simp [Value.ownBlock] at e
    omega

/-- A call came back with two numbers in memory of its own, and an error's number. -/
def RetDiv (q r er : Int) (w : World) (e : Ending) (w' : World) : Prop :=
  ∃ (us vs : List Int) (A B : Option Addr) (n m c d : Nat), IsNat q us ∧ IsNat r vs ∧ us.length = n ∧ vs.length = m ∧ e = .returned (.tuple #[.slice A n c, .slice B m d, .int .i64 er]) ∧ n ≤ c ∧ m ≤ d ∧ Rn w' A us ∧ Rn w' B vs ∧ (∀ a, A = some a → w.heap.size ≤ a.block) ∧ (∀ a, B = some a → w.heap.size ≤ a.block) ∧ Below w.heap.size w w'

theorem div_of {q b r v : Int} (e : q * b + r = v) (h0 : 0 ≤ r) (h1 : r < b) : v / b = q ∧ v % b = r := by
  have hb : 0 < b := by omega
  rw [← e]
  constructor
  · rw [Int.add_comm, Int.add_mul_ediv_right _ _ (Int.ne_of_gt hb), Int.ediv_eq_zero_of_lt h0 h1, Int.zero_add]
  · rw [Int.add_comm, Int.add_mul_emod_self_right, Int.emod_eq_of_lt h0 h1]

end Go.Proofs.Ytmeobamfjcjbhaa
namespace Go.Proofs.Ytmeobamfjcjbhaa
open Go.RowKit
set_option maxRecDepth 100000

theorem tz32_key (x a : Nat) (hx : x < 4294967296) (hx0 : x ≠ 0) (hlow : x &&& (4294967296 - x) = a) :
    bits BinOp.and IntKind.u32 (x : Int) (-(x : Int) % 4294967296) * 125613361 % 4294967296 / 134217728 = ((a * 125613361 % 4294967296 / 134217728 : Nat) : Int) := by
  have e1 : -(x : Int) % 4294967296 = ((4294967296 - x : Nat) : Int) := by omega
  rw [e1, u32_and_nat x _ hx (by omega), hlow]
  omega
/-- 2^t is all that is two in it. -/
def IsTwos (v : Int) (t : Nat) : Prop := ∃ o : Int, v = 2 ^ t * o ∧ o % 2 = 1
theorem twos_at {us : List Int} (_hu : AllW us) {k : Nat} (hk : k < us.length) (hz : ∀ j, j < k → us.getD j 0 = 0) (x : Nat) (ex : us.getD k 0 = (x : Int)) (hx : x < 4294967296) (hx0 : x ≠ 0) : IsTwos (nv us) (32 * k + Lib.ctz 32 x) ∧ Lib.ctz 32 x < 32 := by
  obtain ⟨m, hm, hc⟩ := Lib.ctzFrom_spec 32 x (by omega) hx
  have ec : Lib.ctz 32 x = Lib.ctzFrom 32 x := by simp [Lib.ctz, hx0]
  rw [ec]
  refine ⟨?_, hc⟩
  have e0 : nv (us.take k) = 0 := nv_all_zero _ fun j => by
    rw [getD0_take]
    split
    · rename_i h; exact hz j h
    · rfl
  have e1 := nv_take_drop us k (by omega)
  rw [e0, Int.zero_add, nv_tail (us.drop k), getD0_drop, Nat.add_zero, ex] at e1
  generalize Lib.ctzFrom 32 x = c at *
  have e2 : (4294967296 : Int) = 2 ^ c * (2 ^ (31 - c) * 2) := by
    rw [← Int.pow_succ, ← Int.pow_add, show c + (31 - c + 1) = 32 by omega]
    decide
  have e3 : (x : Int) = 2 ^ c * (2 * (m : Int) + 1) := by
    have : ((x : Nat) : Int) = ((2 ^ c * (2 * m + 1) : Nat) : Int) := by rw [← hm]
    rw [this]
    simp
  refine ⟨2 * (m : Int) + 1 + 2 ^ (31 - c) * 2 * nv (us.drop k).tail, ?_, ?_⟩
  · rw [e1, e3, e2, Int.mul_assoc (2 ^ c), ← Int.mul_add, ← Int.mul_assoc, ← Int.pow_add]
  · rw [Int.mul_right_comm]
    omega

/-- The greatest common divisor. -/
def gcdI (a b : Int) : Int := ((Nat.gcd a.toNat b.toNat : Nat) : Int)
theorem gcdI_zero_left {b : Int} (h : 0 ≤ b) : gcdI 0 b = b := by simp [gcdI]; omega
theorem gcdI_zero_right {a : Int} (h : 0 ≤ a) : gcdI a 0 = a := by simp [gcdI]; omega
theorem gcdI_step {a b : Int} (ha : 0 ≤ a) (hb : 0 ≤ b) : gcdI b (a % b) = gcdI a b := by
  obtain ⟨a, rfl⟩ := Int.eq_ofNat_of_zero_le ha
  obtain ⟨b, rfl⟩ := Int.eq_ofNat_of_zero_le hb
  unfold gcdI
  rw [← Int.natCast_emod]
  simp only [Int.toNat_natCast]
  rw [Nat.gcd_comm a b, Nat.gcd_rec b a, Nat.gcd_comm]
theorem odd_coprime (a k : Nat) (h : a % 2 = 1) : Nat.Coprime a (2 ^ k) := by
  apply Nat.Coprime.pow_right
  unfold Nat.Coprime
  rw [Nat.gcd_comm, Nat.gcd_rec, h]
  rfl
theorem gcd_le_twos (i j a b : Nat) (hij : i ≤ j) (ha : a % 2 = 1) : Nat.gcd (2 ^ i * a) (2 ^ j * b) = 2 ^ i * Nat.gcd a b := by
  rw [show 2 ^ j * b = 2 ^ i * (2 ^ (j - i) * b) by rw [← Nat.mul_assoc, ← Nat.pow_add, show i + (j - i) = j by omega], Nat.gcd_mul_left, Nat.Coprime.gcd_mul_left_cancel_right b (odd_coprime a _ ha).symm]
theorem gcdI_twos {a b x y : Int} {i j : Nat} (ea : a = 2 ^ i * x) (eb : b = 2 ^ j * y) (hx : x % 2 = 1) (hy : y % 2 = 1) (hx0 : 0 ≤ x) (hy0 : 0 ≤ y) : gcdI a b = 2 ^ (min i j) * gcdI x y := by
  obtain ⟨x, rfl⟩ := Int.eq_ofNat_of_zero_le hx0
  obtain ⟨y, rfl⟩ := Int.eq_ofNat_of_zero_le hy0
  have e1 : a = ((2 ^ i * x : Nat) : Int) := by rw [ea]; simp
  have e2 : b = ((2 ^ j * y : Nat) : Int) := by rw [eb]; simp
  subst e1 e2
  unfold gcdI
  simp only [Int.toNat_natCast]
  rcases Nat.le_total i j with h | h
  · rw [gcd_le_twos i j x y h (by omega), Nat.min_eq_left h]
    simp
  · rw [Nat.gcd_comm, gcd_le_twos j i y x h (by omega), Nat.min_eq_right h, Nat.gcd_comm y x]
    simp
theorem twos_shr {v o : Int} {t : Nat} (e : v = 2 ^ t * o) : v / 2 ^ t = o := by rw [e, Int.mul_ediv_cancel_left _ (Int.ne_of_gt (pow_pos' t))]
theorem gcdI_le {a b : Int} (ha : 0 < a) : 0 ≤ gcdI a b ∧ gcdI a b ≤ a := by
  obtain ⟨a, rfl⟩ := Int.eq_ofNat_of_zero_le (Int.le_of_lt ha)
  unfold gcdI
  simp only [Int.toNat_natCast]
  have := Nat.gcd_le_left (b.toNat) (show 0 < a by omega)
  exact ⟨by omega, by omega⟩

end Go.Proofs.Ytmeobamfjcjbhaa
