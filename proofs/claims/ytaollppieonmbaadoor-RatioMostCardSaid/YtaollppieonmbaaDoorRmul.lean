/-
  The contract of the reference's Mul on rows of bits: a row of the product. Conditions: the rows are shorter than 2^38.
-/
import Derived.Test.YtaollppieonmbaaDoorRshl
namespace Go.Proofs.YtaollppieonmbaaDoor
open Go.RowKit

/-- What Mul hands back. -/
def IsProd (xs ys zs : List Bool) : Prop := val zs = val xs * val ys ∧ zs.length ≤ xs.length + ys.length + 1

set_option maxHeartbeats 3200000 in
theorem rmul_any (A B : Option Addr) (n m c d : Nat) (xs ys : List Bool) (w : World) (hn : xs.length = n) (hm : ys.length = m) (hx : Rd w A xs) (hy : Rd w B ys) (ln : n ≤ 274877906944) (lm : m ≤ 274877906944) :
    Calls Tryd.prog 45 #[.slice A n c, .slice B m d] w (RetRow (IsProd xs ys) w) := by
  have HN := Lib.hid hn
  have HM := Lib.hid hm
  clear hn hm
  go_enter Tryd.func45, Tryd.ntmps45
  go_wp2_with fail
  go_loopw [5, 6] (fun s5 s6 wr => ∃ (k z c5 : Nat) (zs : List Bool) (A5 : Option Addr), s6 = .int .i64 (k : Int) ∧ k ≤ m ∧ s5 = .slice A5 z c5 ∧ z ≤ c5 ∧ c5 ≤ maxLen ∧ Hid (zs.length = z) ∧ z ≤ n + k + 1 ∧ Hid (val zs = val xs * val (ys.take k)) ∧ Rd wr A5 zs ∧ Hid (Below w.heap.size w wr)) (fun _ s6 _ => m - (intOf s6).toNat)
  case atStart => exact ⟨0, 0, 0, [], none, rfl, Nat.zero_le _, rfl, Nat.le_refl _, by simp [maxLen], rfl, by omega, by show _ = _; simp [val], .inl rfl, Below.refl _ _⟩
  case round =>
    obtain ⟨k, z, c5, zs, A5, rfl, hk, rfl, hz1, hz2, HL, hz3, HV, hr, HB⟩ := hrel
    by_cases hlt : k < m
    · have hyr := hy.below HB.out (Nat.le_refl _)
      obtain ⟨g, off, rfl, hg, hcell⟩ := hyr.at_ (i := k) (by have := HM.out; omega)
      have hts := val_take_succ ys k
      have hlt' : (k : Int) < (m : Int) := by omega
      cases ey : ys.getD k false
      · have HV2 : Hid (val zs = val xs * val (ys.take (k + 1))) := by
          show _ = _
          rw [hts, ey, HV.out]
          simp
        rw [ey] at hcell
        clear ey hts HV hyr
        go_wp2_with fail
        go_roundw
        case rel => exact ⟨k + 1, z, c5, zs, A5, by go_num, by omega, rfl, hz1, hz2, HL, by omega, HV2, hr, HB⟩
        case measure => simp [intOf]; omega
      · have hxr := hx.below HB.out (Nat.le_refl _)
        have HTS := Lib.hid hts
        rw [ey] at hcell HTS
        clear ey hts hyr
        go_wp2_with fail
        refine (rshl_any A n c xs (k : Int) _ HN.out hxr (by omega) (by omega) (by omega)).mono ?_
        rw [Int.toNat_natCast]
        rintro e w1 ⟨ss, A1, c1, hs, rfl, hc1, hm1, hr1, hb1⟩
        obtain ⟨hv1, hl1⟩ := hs.val
        rw [HN.out] at hl1
        rw [hl1] at hc1 ⊢
        have HV1 := Lib.hid hv1
        have HL1 := Lib.hid hl1
        have hr5 := hr.below hb1 (Nat.le_refl _)
        clear hs hv1 hl1 hr
        go_wp2_with fail
        refine (radd_any A5 A1 z (k + n) c5 c1 zs ss _ HL.out HL1.out hr5 hr1 (by omega) (by omega)).mono ?_
        rintro e w2 ⟨qs, A2, c2, hq, rfl, hc2, hm2, hr2, hb2⟩
        have HV2 : Hid (val qs = val xs * val (ys.take (k + 1))) := by
          show _ = _
          rw [HTS.out, hq.1, HV.out, HV1.out, Int.mul_add, if_pos (by trivial), Int.mul_comm (2 ^ k)]
        have hl2 : qs.length ≤ n + (k + 1) + 1 := by
          have := hq.2.2
          rw [HL.out, HL1.out] at this
          omega
        have HB2 := Lib.hid (bel_trans (bel_trans HB.out hb1) hb2)
        clear hq HV HV1 HTS hb1 hb2 HB hr5 hr1
        generalize hqz : qs.length = qz at *
        have HQZ := Lib.hid hqz
        clear hqz
        go_wp2_with fail
        go_roundw
        case rel => exact ⟨k + 1, qz, c2, qs, A2, by go_num, by omega, rfl, hc2, hm2, HQZ, hl2, HV2, hr2, HB2⟩
        case measure => simp [intOf]; omega
    · have ek : k = m := by omega
      subst ek
      have ht : ys.take k = ys := List.take_of_length_le (by rw [HM.out]; omega)
      have fin : IsProd xs ys zs := ⟨by rw [HV.out, ht], by rw [HL.out, HN.out, HM.out]; exact hz3⟩
      have hzl := HL.out
      clear ht HV
      go_wp2_with fail
      subst hzl
      go_ret
      exact ⟨zs, A5, c5, fin, rfl, hz1, hz2, hr, HB.out⟩
end Go.Proofs.YtaollppieonmbaaDoor
