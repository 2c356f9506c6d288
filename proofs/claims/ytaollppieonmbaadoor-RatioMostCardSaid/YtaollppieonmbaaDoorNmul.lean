/-
  Contracts of nat's addProduct and Mul: the product. Conditions: at most 2^19 words, each of 32 bits.
-/
import Derived.Test.YtaollppieonmbaaDoorNonly
namespace Go.Proofs.YtaollppieonmbaaDoor
open Go.RowKit

/-- So many words' products have been added, from a place on, and the carry. -/
structure AddPr (vs zs zs' : List Int) (x : Int) (off k : Nat) (cr : Int) : Prop where
  len : zs'.length = zs.length
  all : AllW zs'
  eq : nv zs' + 2 ^ (32 * (off + k)) * cr = nv zs + 2 ^ (32 * off) * (nv (vs.take k) * x)
  same : ∀ j, j < off ∨ off + k ≤ j → zs'.getD j 0 = zs.getD j 0
  car : W32 cr
theorem pow_off (off k : Nat) : (2 : Int) ^ (32 * (off + k)) = 2 ^ (32 * off) * 2 ^ (32 * k) := by rw [Nat.mul_add, Int.pow_add]
theorem prod_bd {x y : Int} (hx : W32 x) (hy : W32 y) : 0 ≤ y * x ∧ y * x ≤ 18446744065119617025 := by
  obtain ⟨x0, x1⟩ := hx
  obtain ⟨y0, y1⟩ := hy
  refine ⟨Int.mul_nonneg y0 x0, ?_⟩
  have := Int.mul_le_mul (show y ≤ 4294967295 by omega) (show x ≤ 4294967295 by omega) x0 (by decide)
  omega
theorem AddPr.next {vs zs zs' : List Int} {x y z : Int} {off k : Nat} {cr : Int} (h : AddPr vs zs zs' x off k cr) (hk : off + k < zs.length) (hx : W32 x) (hy : W32 y) (hz : W32 z) (ey : vs.getD k 0 = y) (ez : zs'.getD (off + k) 0 = z) :
    AddPr vs zs (zs'.set (off + k) (low32 (y * x + z + cr))) x off (k + 1) (car32 (y * x + z + cr)) := by
  obtain ⟨h1, h2, h3, h4, h5⟩ := h
  have pb := prod_bd hx hy
  refine ⟨by rw [List.length_set, h1], h2.set _ (w32_low _), ?_, fun j hj => ?_, ?_⟩
  · rw [nv_set _ _ _ (by rw [h1]; exact hk), nv_take_succ, ey, ez, ← Nat.add_assoc, pow32]
    have e2 := mul_car (2 ^ (32 * (off + k))) (car_low (y * x + z + cr))
    have e3 : (2 : Int) ^ (32 * (off + k)) * (y * x) = 2 ^ (32 * off) * (2 ^ (32 * k) * y * x) := by rw [pow_off, Int.mul_assoc, Int.mul_assoc]
    rw [Int.mul_add, Int.mul_add] at e2
    rw [Int.mul_sub, Int.add_mul, Int.mul_add, ← e3]
    omega
  · rw [getD_set_ne _ _ _ _ (by omega)]
    exact h4 j (by omega)
  · obtain ⟨_, _⟩ := hz
    obtain ⟨_, _⟩ := h5
    constructor <;> unfold car32 <;> omega

/-- What addProduct hands back. -/
def IsAddPr (vs zs : List Int) (x : Int) (g off : Nat) (w : World) (e : Ending) (w' : World) : Prop :=
  ∃ (zs' : List Int) (cr : Int), AddPr vs zs zs' x off vs.length cr ∧ e = .returned (.int .u32 cr) ∧ Blk w' g 80 (wordArr zs') ∧ Only g w w'

set_option maxHeartbeats 1600000 in
theorem addProduct_any (B : Option Addr) (g off la ca m d : Nat) (vs zs : List Int) (x : Int) (w : World) (hm : vs.length = m) (hla : m ≤ la) (hoff : off + m ≤ zs.length) (hy : Rn w B vs) (hB : vs ≠ [] → ∀ a, B = some a → a.block ≠ g) (hv : AllW vs) (hz : AllW zs) (hx : W32 x) (BZ : Blk w g 80 (wordArr zs)) (lm : m ≤ 1048576) (lla : la ≤ 2097152) :
    Calls Tryd.prog 66 #[.slice (some ⟨g, off, none⟩) la ca, .slice B m d, .int .u32 x] w (IsAddPr vs zs x g off w) := by
  have HM := Lib.hid hm
  have HBB := Lib.hid hB
  obtain ⟨x0, x1⟩ := id hx
  clear hm hB
  go_enter Tryd.func66, Tryd.ntmps66
  go_wp2_with fail
  go_loopw [7, 12] (fun s7 s12 wr => ∃ (k : Nat) (us : List Int) (cr : Int), s7 = .int .u64 cr ∧ s12 = .int .i64 (k : Int) ∧ k ≤ m ∧ AddPr vs zs us x off k cr ∧ Blk wr g 80 (wordArr us) ∧ Hid (Only g w wr)) (fun _ s12 _ => m - (intOf s12).toNat)
  case atStart => exact ⟨0, zs, 0, rfl, rfl, Nat.zero_le _, ⟨rfl, hz, by simp [nv], fun _ _ => rfl, ⟨by decide, by decide⟩⟩, BZ, Only.refl _ _⟩
  case round =>
    clear BZ
    obtain ⟨k, us, cr, rfl, rfl, hk, T, BZ, HO⟩ := hrel
    by_cases hlt : k < m
    · have hyr := hy.only HO.out HBB.out
      obtain ⟨g2, off2, rfl, hg2, hc2⟩ := hyr.at_ (i := k) (by rw [HM.out]; exact hlt)
      have wy := hv.getD k
      have wz := T.all.getD (off + k)
      have TN := Lib.hid (T.next (by omega) hx wy wz rfl rfl)
      have q0 := BZ.word (i := off + k) (by rw [T.len]; omega)
      have q1 : wr.drew.frozen? ⟨g, off + k, none⟩ = false := BZ.frozen (off + k)
      have cw := T.car
      generalize vs.getD k 0 = y at *
      generalize us.getD (off + k) 0 = z at *
      have q2 : wr.drew.cell? ⟨g, off + k, none⟩ = some (.int .u32 z) := q0
      have pb := prod_bd hx wy
      obtain ⟨pb0, pb1⟩ := pb
      obtain ⟨z0, z1⟩ := wz
      obtain ⟨y0, y1⟩ := wy
      obtain ⟨c0, c1⟩ := cw
      have hl1 : (k : Int) < (m : Int) := by omega
      have hl2 : (k : Int) < (la : Int) := by omega
      have BZ2 := BZ.drew.set_ (off + k) (.int .u32 (low32 (y * x + z + cr)))
      rw [wordArr_set] at BZ2
      have HO2 : Hid (Only g w (wr.drew.setCell ⟨g, off + k, none⟩ (.int .u32 (low32 (y * x + z + cr))))) := HO.out.drew.set_ _ _
      clear T BZ HO hyr
      go_upto_region 5 with fail
      go_region
      have s0 : 0 ≤ y * x + z + cr := by omega
      have s1 : y * x + z + cr ≤ 18446744073709551615 := by omega
      have e1 : (y * x + z + cr) % 4294967296 = low32 (y * x + z + cr) := rfl
      have e2 : (y * x + z + cr) / 4294967296 = car32 (y * x + z + cr) := rfl
      generalize y * x + z + cr = s at *
      generalize low32 s = l at *
      generalize car32 s = cr' at *
      go_wp2_with fail
      go_roundw
      case rel => exact ⟨k + 1, _, cr', by rw [← e2], by go_num, by omega, TN.out, BZ2, HO2⟩
      case measure => simp [intOf]; omega
    · have ek : k = m := by omega
      subst ek
      have fin : AddPr vs zs us x off vs.length cr := by rw [HM.out]; exact T
      obtain ⟨c0, c1⟩ := T.car
      clear T
      go_wp2_with fail
      go_ret
      exact ⟨us, cr, fin, rfl, BZ, HO.out⟩

/-- So many words of one number have been multiplied. -/
structure MulTo (us vs zs : List Int) (n k : Nat) : Prop where
  len : zs.length = n
  all : AllW zs
  eq : nv zs = nv (us.take k) * nv vs
  high : ∀ j, k + vs.length ≤ j → zs.getD j 0 = 0
theorem MulTo.next {us vs zs zs' : List Int} {n k : Nat} {x cr : Int} (h : MulTo us vs zs n k) (hp : AddPr vs zs zs' x k vs.length cr) (ex : us.getD k 0 = x) (hk : k + vs.length < n) : MulTo us vs (zs'.set (k + vs.length) cr) n (k + 1) := by
  obtain ⟨h1, h2, h3, h4⟩ := h
  obtain ⟨p1, p2, p3, p4, p5⟩ := hp
  refine ⟨by rw [List.length_set, p1, h1], p2.set _ p5, ?_, fun j hj => ?_⟩
  · rw [nv_set _ _ _ (by omega), p4 _ (by omega), h4 _ (Nat.le_refl _), nv_take_succ, ex, Int.add_mul, ← h3]
    rw [List.take_length] at p3
    rw [Int.mul_assoc, Int.mul_comm x, Int.sub_zero]
    omega
  · rw [getD_set_ne _ _ _ _ (by omega), p4 _ (by omega)]
    exact h4 j (by omega)

set_option maxHeartbeats 3200000 in
theorem nmul_any (A B : Option Addr) (n m c d : Nat) (us vs : List Int) (w : World) (hn : us.length = n) (hm : vs.length = m) (hc : n ≤ c) (hd : m ≤ d) (hx : Rn w A us) (hy : Rn w B vs) (hu : AllW us) (hv : AllW vs) (ln : n ≤ 1048576) (lm : m ≤ 1048576) :
    Calls Tryd.prog 43 #[.slice A n c, .slice B m d] w (RetN (nv us * nv vs) w) := by
  have HN := Lib.hid hn
  have HM := Lib.hid hm
  obtain ⟨va, hva⟩ : ∃ va, nv us = va := ⟨_, rfl⟩
  obtain ⟨vb, hvb⟩ : ∃ vb, nv vs = vb := ⟨_, rfl⟩
  rw [hva, hvb]
  have HVA := Lib.hid hva
  have HVB := Lib.hid hvb
  clear hn hm hva hvb
  go_enter Tryd.func43, Tryd.ntmps43
  go_wp2_with fail
  refine (trim_any A n c us w HN.out hc hx (by omega)).mono ?_
  rintro e w1 ⟨us', A1, n1, c1, TU, rfl, hc1, hx1, -, rfl⟩
  go_wp2_with fail
  refine (trim_any B m d vs w HM.out hd hy (by omega)).mono ?_
  rintro e w1 ⟨vs', B1, m1, d1, TV, rfl, hd1, hy1, -, rfl⟩
  have a1 := (TU.nat hu).all
  have a2 := (TV.nat hv).all
  have HVA' : Hid (nv us' = va) := (TU.nat hu).val.trans HVA.out
  have HVB' : Hid (nv vs' = vb) := (TV.nat hv).val.trans HVB.out
  have ln1 := TU.le HN.out
  have lm1 := TV.le HM.out
  have HN1 := Lib.hid TU.len
  have HM1 := Lib.hid TV.len
  clear TU TV hx hy hu hv HVA HVB
  obtain ⟨N, hN⟩ : ∃ N, n1 + m1 = N := ⟨_, rfl⟩
  obtain ⟨r0, hr0⟩ : ∃ r0, r0 = List.replicate N (0 : Int) := ⟨_, rfl⟩
  have hmk := run_make_nat ((n1 : Int) + (m1 : Int)) N (by omega) (by omega) r0 hr0
  have HR0 := Lib.hid hr0
  have hN1 : n1 + m1 ≤ N := by omega
  have hN2 : N ≤ n1 + m1 := by omega
  clear hr0 hN
  go_wp2_with fail
  clear hmk
  go_loopw [19] (fun s19 wr => ∃ (k : Nat) (zs : List Int), s19 = .int .i64 (k : Int) ∧ k ≤ n1 ∧ MulTo us' vs' zs N k ∧ Blk wr w.heap.size 80 (wordArr zs) ∧ Hid (Below w.heap.size w wr)) (fun s19 _ => n1 - (intOf s19).toNat)
  case atStart => exact ⟨0, r0, rfl, Nat.zero_le _, ⟨by rw [HR0.out]; simp, by rw [HR0.out]; exact AllW.zeros _, by rw [HR0.out, nv_zeros]; simp [nv], fun j _ => by rw [HR0.out, List.getD_eq_getElem?_getD, List.getElem?_replicate]; split <;> rfl⟩, Blk.new _ _ _, bel_alloc (Below.refl _ _) _⟩
  case round =>
    obtain ⟨k, zs, rfl, hk, T, BZ, HB⟩ := hrel
    by_cases hlt : k < n1
    · have hxr := hx1.below HB.out (Nat.le_refl _)
      have hyr := hy1.below HB.out (Nat.le_refl _)
      obtain ⟨g, off, rfl, hg, hcell⟩ := hxr.at_ (i := k) (by rw [HN1.out]; exact hlt)
      have wx := a1.getD k
      have TN : Hid (∀ zs' cr, AddPr vs' zs zs' (us'.getD k 0) k vs'.length cr → MulTo us' vs' (zs'.set (k + m1) cr) N (k + 1) ∧ k + m1 < zs'.length) := fun zs' cr hp => by
        have := T.next hp rfl (by rw [HM1.out]; omega)
        rw [HM1.out] at this
        exact ⟨this, by rw [hp.len, T.len]; omega⟩
      have hB1 := Lib.hid (hy1.ne (Nat.le_refl _))
      generalize us'.getD k 0 = x at *
      have hl1 : (k : Int) < (n1 : Int) := by omega
      have hl2 : (k : Int) < (N : Int) := by omega
      have hl3 : (k : Int) + (m1 : Int) < (N : Int) := by omega
      have hcell' : wr.drew.cell? ⟨g, off + k, none⟩ = some (.int .u32 x) := hcell
      have HBd := Lib.hid (bel_drew HB.out)
      have CALL : Hid (∀ la ca, m1 ≤ la → la ≤ 2097152 → Calls Tryd.prog 66 #[.slice (some ⟨w.heap.size, k, none⟩) la ca, .slice B1 m1 d1, .int .u32 x] wr.drew (IsAddPr vs' zs x w.heap.size k wr.drew)) := fun la ca h1 h2 =>
        addProduct_any B1 w.heap.size k la ca m1 d1 vs' zs x wr.drew HM1.out h1 (by rw [T.len]; omega) hyr.drew hB1.out a2 T.all wx BZ.drew (by omega) h2
      clear hcell T BZ HB hxr hyr
      go_upto_region 6 with fail
      go_region_with
        (first
          | (go_at_call 66; refine (CALL.out _ _ (by omega) (by omega)).mono ?_; rintro e w' ⟨zs', cr, hp, rfl, BZ', HO'⟩; have hq := TN.out zs' cr hp; have q0 := BZ'.word (i := k + m1) hq.2; have q1 := BZ'.frozen (k + m1); have TM := hq.1; clear hp hq))
      all_goals
        have BZ2 := BZ'.set_ (k + m1) (.int .u32 cr)
        rw [wordArr_set] at BZ2
        have HB2 : Hid (Below w.heap.size w (w'.setCell ⟨w.heap.size, k + m1, none⟩ (.int .u32 cr))) := bel_set (HO'.below HBd.out (Nat.le_refl _)) (Nat.le_refl _) _
        go_wp2_with fail
        go_roundw
        case rel => exact ⟨k + 1, _, by go_num, by omega, TM, BZ2, HB2⟩
        case measure => simp [intOf]; omega
    · have ek : k = n1 := by omega
      subst ek
      have FIN : Hid (nv zs = va * vb) := by
        show _ = _
        rw [T.eq, List.take_of_length_le (by rw [HN1.out]; exact Nat.le_refl _), HVA'.out, HVB'.out]
      have ha := T.all
      have HL := Lib.hid T.len
      clear T
      go_wp2_with fail
      refine (trim_any (some ⟨w.heap.size, 0, none⟩) N N zs wr HL.out (Nat.le_refl _) BZ.words (by omega)).mono ?_
      rintro e w1 ⟨ts, A', m', c', T, rfl, hmc, hra, hfr, rfl⟩
      have fin2 : IsNat (va * vb) ts := by
        rw [← FIN.out]
        exact T.nat ha
      go_wp2_with fail
      go_ret
      exact ⟨ts, A', m', c', fin2, T.len, rfl, hmc, hra, fun a h => by injection hfr a h with h; rw [← h]; exact Nat.le_refl _, HB.out⟩
end Go.Proofs.YtaollppieonmbaaDoor
