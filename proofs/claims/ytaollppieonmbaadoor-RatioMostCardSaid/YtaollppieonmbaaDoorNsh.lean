/-
  Contracts of nat's New, Len, Bit, Uint, Shr and Shl. Conditions: at most 2^20 words, each of 32 bits.
-/
import Derived.Test.YtaollppieonmbaaDoorNlift
import Derived.Test.YtaollppieonmbaaDoorRdiv
namespace Go.Proofs.YtaollppieonmbaaDoor
open Go.RowKit

theorem Blk.words2 {w : World} {g : Nat} {t : TypeId} {ws : List Int} (h : Blk w g t (wordArr ws)) : Rn w (some ⟨g, 0, none⟩) ws := by
  refine .inr ⟨g, 0, rfl, h.lt, fun i b hi => ?_⟩
  have hl : i < ws.length := by
    rcases Nat.lt_or_ge i ws.length with h | h
    · exact h
    · rw [List.getElem?_eq_none h] at hi; cases hi
  rw [h.cell (0 + i), Nat.zero_add, wordArr_get ws i hl, List.getD_eq_getElem?_getD, hi]
  rfl
theorem ret_nat {v : Int} {ws : List Int} {A : Option Addr} {n c : Nat} {W w : World} {g : Nat} (hn : IsNat v ws) (hl : ws.length = n) (hc : n ≤ c) (hr : Rn w A ws) (hf : ∀ a, A = some a → (some ⟨g, 0, none⟩ : Option Addr) = some a) (hg : W.heap.size ≤ g) (hb : Below W.heap.size W w) : RetN v W (.returned (.slice A n c)) w :=
  ⟨ws, A, n, c, hn, hl, rfl, hc, hr, fun a h => by injection hf a h with h; rw [← h]; exact hg, hb⟩

theorem new_any (x : Int) (hx : Word x) (w : World) : Calls Tryd.prog 39 #[.int .u64 x] w (RetN x w) := by
  obtain ⟨x0, x1⟩ := hx
  have hv : Hid (nv [x % 4294967296, x / 4294967296] = x) := by show _ = _; simp [nv]; omega
  have ha : AllW [x % 4294967296, x / 4294967296] := AllW.cons ⟨by omega, by omega⟩ (AllW.cons ⟨by omega, by omega⟩ AllW.nil)
  go_enter Tryd.func39, Tryd.ntmps39
  go_wp2_with fail
  have BK := Blk.new w 80 #[.int .u32 (x % 4294967296), .int .u32 (x / 4294967296)]
  have BK2 : Blk (w.alloc (.cells #[.int .u32 (x % 4294967296), .int .u32 (x / 4294967296)] 80)) w.heap.size 80 (wordArr [x % 4294967296, x / 4294967296]) := BK
  refine (trim_any (some ⟨w.heap.size, 0, none⟩) 2 2 _ _ rfl (Nat.le_refl _) BK2.words (by decide)).mono ?_
  rintro e w1 ⟨ts, A', m', c', T, rfl, hmc, hra, hfr, rfl⟩
  have fin : IsNat x ts := by have := T.nat ha; rw [hv.out] at this; exact this
  go_wp2_with fail
  go_ret
  exact ret_nat fin T.len hmc hra hfr (Nat.le_refl _) (bel_alloc (Below.refl _ _) _)

theorem blen_nv {ws : List Int} {k : Nat} (ha : AllW ws) (ht : tlen ws = k + 1) : blen (nv ws) = (k : Int) * 32 + blen (ws.getD k 0) := by
  have hne : ws.getD k 0 ≠ 0 := by have := tlen_top ws (by omega); rw [ht] at this; exact this
  have wx := ha.getD k
  obtain ⟨b, eb, lt, ge, _⟩ := blen_spec wx.1
  obtain ⟨g1, g2⟩ := ge (by have := wx.1; omega)
  have e : nv ws = nv (ws.take k) + 2 ^ (32 * k) * ws.getD k 0 := by rw [← nv_trim ws, ht, nv_take_succ]
  have l0 := nv_nonneg _ (ha.take k)
  have l1 := nv_lt _ (ha.take k)
  rw [List.length_take] at l1
  have l2 := pow_mono (32 * min k ws.length) (32 * k) (by omega)
  rw [eb]
  have hh : blen (nv ws) = ((32 * k + b : Nat) : Int) := by
    refine blen_eq (by omega) ?_ ?_
    · rw [show 32 * k + b - 1 = 32 * k + (b - 1) by omega, Int.pow_add]
      have := Int.mul_le_mul_of_nonneg_left g1 (Int.le_of_lt (pow_pos' (32 * k)))
      omega
    · rw [Int.pow_add]
      have h2 : (2 : Int) ^ (32 * k) * (ws.getD k 0 + 1) ≤ 2 ^ (32 * k) * 2 ^ b := Int.mul_le_mul_of_nonneg_left (by omega) (Int.le_of_lt (pow_pos' (32 * k)))
      rw [Int.mul_add] at h2
      omega
  rw [hh]
  omega

theorem nlen_any (A : Option Addr) (n c : Nat) (us : List Int) (w : World) (hn : us.length = n) (hc : n ≤ c) (hx : Rn w A us) (hu : AllW us) (ln : n ≤ 1048577) :
    Calls Tryd.prog 56 #[.slice A n c] w fun e w' => e = .returned (.int .i64 (blen (nv us))) ∧ w = w' := by
  have HN := Lib.hid hn
  obtain ⟨va, hva⟩ : ∃ va, blen (nv us) = va := ⟨_, rfl⟩
  rw [hva]
  have HVA := Lib.hid hva
  clear hn hva
  go_enter Tryd.func56, Tryd.ntmps56
  go_wp2_with fail
  refine (trim_any A n c us w HN.out hc hx (by omega)).mono ?_
  rintro e w1 ⟨us', A1, n1, c1, TU, rfl, hc1, hx1, -, rfl⟩
  have a1 := (TU.nat hu).all
  have HVA' : Hid (blen (nv us') = va) := by show _ = _; rw [(TU.nat hu).val]; exact HVA.out
  have ln1 := TU.le HN.out
  have HN1 := Lib.hid TU.len
  have HT := Lib.hid TU.tl
  clear TU HVA hx hu
  by_cases h0 : n1 = 0
  · subst h0
    have F : Hid (va = 0) := by
      show _ = _
      rw [← HVA'.out, (nv_zero_iff a1).2 HT.out]
      rfl
    go_wp2_with fail
    go_ret
    exact ⟨ret_int F.out.symm, rfl⟩
  · obtain ⟨k, rfl⟩ : ∃ k, n1 = k + 1 := ⟨n1 - 1, by omega⟩
    obtain ⟨g, off, rfl, hg, hcell⟩ := hx1.at_ (i := k) (by rw [HN1.out]; omega)
    have wx := a1.getD k
    have F : Hid ((k : Int) * 32 + blen (us'.getD k 0) = va) := by show _ = _; rw [← HVA'.out, blen_nv a1 HT.out]
    generalize us'.getD k 0 = x at *
    obtain ⟨b0, b1⟩ := blen_bd (k := 32) wx.1 wx.2
    have L := len32w x wx
    generalize blen x = b at *
    clear h0
    go_wp2_with fail
    refine (L _).mono ?_
    rintro e w1 ⟨rfl, rfl⟩
    clear L
    go_wp2_with fail
    go_ret
    exact ⟨ret_int F.out, rfl⟩

theorem nv_div (us : List Int) (hu : AllW us) (q : Nat) : nv us / 2 ^ (32 * q) = nv (us.drop q) := by
  rcases Nat.lt_or_ge us.length q with h | h
  · rw [List.drop_eq_nil_of_le (by omega)]
    have := nv_lt us hu
    have := pow_mono (32 * us.length) (32 * q) (by omega)
    exact Int.ediv_eq_zero_of_lt (nv_nonneg us hu) (by omega)
  · have e := nv_take_drop us q h
    have h0 := nv_nonneg _ (hu.take q)
    have h1 := nv_lt _ (hu.take q)
    rw [List.length_take, Nat.min_eq_left h] at h1
    rw [e, Int.add_mul_ediv_left _ _ (Int.ne_of_gt (pow_pos' _)), Int.ediv_eq_zero_of_lt h0 h1, Int.zero_add]
theorem nv_bit (us : List Int) (hu : AllW us) (q r : Nat) (hr : r < 32) : nv us / 2 ^ (32 * q + r) % 2 = us.getD q 0 / 2 ^ r % 2 := by
  rw [Int.pow_add, ← Int.ediv_ediv_of_nonneg (Int.le_of_lt (pow_pos' _)), nv_div us hu q, nv_tail (us.drop q), getD0_drop, Nat.add_zero]
  have e : (4294967296 : Int) = 2 ^ r * (2 ^ (31 - r) * 2) := by
    rw [← Int.pow_succ, ← Int.pow_add, show r + (31 - r + 1) = 32 by omega]
    decide
  rw [e, Int.mul_assoc, Int.add_mul_ediv_left _ _ (Int.ne_of_gt (pow_pos' _)), Int.mul_comm (2 ^ (31 - r)) 2, Int.mul_assoc]
  omega

/-- The bit of 2^i. -/
def bitN (v i : Int) : Int := if i < 0 then 0 else v / 2 ^ i.toNat % 2
theorem nv_two {us : List Int} (_hu : AllW us) (h : tlen us ≤ 2) : nv us = us.getD 1 0 * 4294967296 + us.getD 0 0 := by
  rw [nv_same us [us.getD 0 0, us.getD 1 0] fun j => ?_]
  · simp [nv]; omega
  · rcases j with _ | _ | j
    · simp
    · simp
    · rw [tlen_high us _ (by omega)]; rfl
/-- What Uint hands back. -/
def uintV (v : Int) : Int := if v < 18446744073709551616 then v else 0
/-- So many words have been shifted down. -/
structure ShrTo (us zs : List Int) (n r k : Nat) : Prop where
  len : zs.length = n
  all : AllW zs
  eq : nv (zs.take k) * 2 ^ r + us.getD 0 0 % 2 ^ r = nv (us.take k) + 2 ^ (32 * k) * (us.getD k 0 % 2 ^ r)
theorem ShrTo.next {us zs : List Int} {n r k : Nat} {x y : Int} (h : ShrTo us zs n r k) (hr : r < 32) (hx : W32 x) (ex : us.getD k 0 = x) (ey : us.getD (k + 1) 0 = y) (hk : k < n) :
    ShrTo us (zs.set k (x / 2 ^ r + IntKind.u32.wrap (y * 2 ^ (32 - r)))) n r (k + 1) := by
  obtain ⟨h1, h2, h3⟩ := h
  have b1 := wrap_room y (32 - r) (by omega)
  have b2 := shr_lt hx (32 - r) (by omega)
  have b3 := wrap_mul y (32 - r) (by omega)
  rw [show 32 - (32 - r) = r by omega] at b2 b3
  refine ⟨by rw [List.length_set, h1], h2.set _ ⟨by omega, by omega⟩, ?_⟩
  rw [nv_take_succ, nv_take_succ, take_set, getD_set _ _ _ (by omega), ex, ey, b3, pow32]
  rw [ex] at h3
  have e1 := Int.ediv_mul_add_emod x (2 ^ r)
  have e2 : y % 2 ^ r * 2 ^ (32 - r) * 2 ^ r = y % 2 ^ r * 4294967296 := by rw [Int.mul_assoc, pow_split r (by omega)]
  have e3 : 2 ^ (32 * k) * (x / 2 ^ r + y % 2 ^ r * 2 ^ (32 - r)) * 2 ^ r = 2 ^ (32 * k) * (x - x % 2 ^ r) + 2 ^ (32 * k) * 4294967296 * (y % 2 ^ r) := by
    rw [Int.mul_assoc, Int.add_mul, e2, show x / 2 ^ r * 2 ^ r = x - x % 2 ^ r by omega, Int.mul_add, Int.mul_comm (y % 2 ^ r), ← Int.mul_assoc (2 ^ (32 * k)) 4294967296]
  rw [Int.add_mul, e3, Int.mul_sub]
  omega
theorem ShrTo.done {us zs : List Int} {n r : Nat} (h : ShrTo us zs n r n) (hn : us.length = n) : nv zs = nv us / 2 ^ r := by
  have e := h.eq
  rw [List.take_of_length_le (by rw [h.len]; exact Nat.le_refl _), List.take_of_length_le (by omega), getD0_past us n (by omega)] at e
  have hp := pow_pos' r
  have r0 := Int.emod_nonneg (us.getD 0 0) (Int.ne_of_gt hp)
  have r1 := Int.emod_lt_of_pos (us.getD 0 0) hp
  rw [Int.zero_emod, Int.mul_zero, Int.add_zero] at e
  have e2 : nv us = us.getD 0 0 % 2 ^ r + nv zs * 2 ^ r := by omega
  rw [e2, Int.add_mul_ediv_right _ _ (Int.ne_of_gt hp), Int.ediv_eq_zero_of_lt r0 r1, Int.zero_add]
end Go.Proofs.YtaollppieonmbaaDoor
