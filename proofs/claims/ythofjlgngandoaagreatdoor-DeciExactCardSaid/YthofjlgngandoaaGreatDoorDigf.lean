/-
  Contract of deci's shortest: of the candidates, from the fewest digits on, the first one that is read as the float. Conditions: the expansion is one of 18 or 19 digits; the nearer candidate of 17 digits is read as the float; the listed tables stand.
-/
import Derived.Test.YthofjlgngandoaaGreatDoorDige
namespace Go.Proofs.YthofjlgngandoaaGreatDoor
open Go.RowKit
set_option maxRecDepth 100000

/-- The first candidate that passes, among those of 18 - m digits or more (and the power that it is taken at). -/
def shR (f : Int) (W : Nat) (x : Int) (r : Bool) (s : Nat) : Nat → Nat × Int
  | 0 => (0, 0)
  | m + 1 => if nearV (dcD (arA W r (s - 17 + m))) (dcE (arA W r (s - 17 + m)) (x + ((s - 17 + m : Nat) : Int))) == f then (arA W r (s - 17 + m), x + ((s - 17 + m : Nat) : Int))
    else if nearV (dcD (arB W r (s - 17 + m))) (dcE (arB W r (s - 17 + m)) (x + ((s - 17 + m : Nat) : Int))) == f then (arB W r (s - 17 + m), x + ((s - 17 + m : Nat) : Int))
    else shR f W x r s m
/-- What is known of a candidate. -/
theorem ar_bd {W n : Nat} (r : Bool) (h0 : 10 ^ n ≤ W) (h1 : W < 10 ^ (n + 17)) : (0 < arA W r n ∧ arA W r n ≤ 100000000000000000) ∧ (0 < arB W r n ∧ arB W r n ≤ 100000000000000000) := by
  have p : 0 < 10 ^ n := Nat.pow_pos (by decide)
  have a1 : 1 ≤ W / 10 ^ n := (Nat.le_div_iff_mul_le p).2 (by omega)
  have a2 : W / 10 ^ n < 100000000000000000 := (Nat.div_lt_iff_lt_mul p).2 (by rw [Nat.pow_add] at h1; omega)
  unfold arA arB
  constructor <;> split <;> omega
theorem ixd0 (a b c d : Value) (w : World) : (Instr.index 101 (.agg #[a, b, c, d]) (.int .i64 0)).run Tryz.prog w = .ok (.agg #[a, b]) w := by
  simp [Instr.index, run_underlying Tryz.underlying101, asIntOf, go_sem, Tryz.sizeOf70, Tryz.isAgg70]
theorem ixd1 (a b c d : Value) (w : World) : (Instr.index 101 (.agg #[a, b, c, d]) (.int .i64 1)).run Tryz.prog w = .ok (.agg #[c, d]) w := by
  simp [Instr.index, run_underlying Tryz.underlying101, asIntOf, go_sem, Tryz.sizeOf70, Tryz.isAgg70]
theorem kpo {W w1 : World} {p0 : Addr} {a0 : Value} (hb : Below W.heap.size W w1) (h0 : W.cell? p0 = some a0) : w1.cell? p0 = some a0 := (hb.cell (World.block_lt_of_cell? _ _ h0)).trans h0
set_option maxHeartbeats 16000000 in
theorem shortest_any (f : Int) (W : Nat) (x : Int) (r : Bool) (g : Nat) (w : World) (hW : 100000000000000000 ≤ W) (hW' : W < 2000000000000000000) (hx : -400 ≤ x) (hx' : x ≤ 400)
    (hs : 18 ≤ Lib.nDigits W) (hs' : Lib.nDigits W ≤ 19)
    (hl : nearV (dcD (arA W r (Lib.nDigits W - 17))) (dcE (arA W r (Lib.nDigits W - 17)) (x + ((Lib.nDigits W - 17 : Nat) : Int))) = f)
    (hc : w.cell? ⟨g, 0, none⟩ = some (.int .u64 f)) (hE : EnvOk w) :
    Calls Tryz.prog 41 #[.agg #[.int .u64 (W : Int), .int .i64 x, .bool r], .func (.func 42) #[] #[.pointer (some ⟨g, 0, none⟩)]] w (RetV (fun _ v => v = .agg #[.string ⟨(dcD (shR f W x r (Lib.nDigits W) 17).1).toArray⟩, .int .i64 (dcE (shR f W x r (Lib.nDigits W) 17).1 (shR f W x r (Lib.nDigits W) 17).2)]) w) := by
  have FU := Lib.hid fun w hE => format_any W (by omega) w hE
  have sz : (⟨(Lib.decDigits W).toArray⟩ : ByteArray).size = Lib.nDigits W := by rw [str_size, Lib.decDigits_length]
  have lows := nd_low (x := W) (by omega)
  have highs := Lib.lt_pow_nDigits W
  obtain ⟨t, ht⟩ : ∃ t : ByteArray, t = ⟨(Lib.decDigits W).toArray⟩ := ⟨_, rfl⟩
  rw [← ht] at sz FU
  clear ht
  obtain ⟨s, hss⟩ : ∃ s, Lib.nDigits W = s := ⟨_, rfl⟩
  rw [hss] at sz lows highs hs hs' hl ⊢
  clear hss
  -- one round
  have ST : Hid (∀ k, k ≤ 16 → ∃ a b : Nat, ∃ z : Int, -1000 ≤ z ∧ z ≤ 1000 ∧ 0 < a ∧ a ≤ 100000000000000000 ∧ 0 < b ∧ b ≤ 100000000000000000 ∧
      (∀ w, EnvOk w → Calls Tryz.prog 64 #[.agg #[.int .u64 (W : Int), .int .i64 x, .bool r], .int .i64 ((s - 1 - k : Nat) : Int)] w (RetV (fun _ v => v = .agg #[.string ⟨(dcD a).toArray⟩, .int .i64 (dcE a z), .string ⟨(dcD b).toArray⟩, .int .i64 (dcE b z)]) w)) ∧
      shR f W x r s (17 - k) = (if nearV (dcD a) (dcE a z) == f then (a, z) else if nearV (dcD b) (dcE b z) == f then (b, z) else shR f W x r s (17 - (k + 1))) ∧
      (k = 16 → (nearV (dcD a) (dcE a z) == f) = true)) := by
    intro k hk
    have en : s - 17 + (16 - k) = s - 1 - k := by omega
    have p1 : 10 ^ (s - 1 - k) ≤ 10 ^ (s - 1) := Nat.pow_le_pow_right (by decide) (by omega)
    have p2 : 10 ^ s ≤ 10 ^ (s - 1 - k + 17) := Nat.pow_le_pow_right (by decide) (by omega)
    obtain ⟨⟨a0, a1⟩, b0, b1⟩ := ar_bd (W := W) (n := s - 1 - k) r (by omega) (by omega)
    refine ⟨arA W r (s - 1 - k), arB W r (s - 1 - k), x + ((s - 1 - k : Nat) : Int), by omega, by omega, a0, a1, b0, b1, ?_, ?_, ?_⟩
    · intro w hE
      exact around_any W x r (s - 1 - k) (by omega) (by omega) (by omega) (by omega) w hE
    · rw [show 17 - k = 16 - k + 1 by omega, show 17 - (k + 1) = 16 - k by omega]
      conv => lhs; unfold shR
      rw [en]
    · rintro rfl
      rw [show s - 1 - 16 = s - 17 by omega, hl]
      simp
  obtain ⟨RS, hRS⟩ : ∃ v : Array Value, v = #[.string ⟨(dcD (shR f W x r s 17).1).toArray⟩, .int .i64 (dcE (shR f W x r s 17).1 (shR f W x r s 17).2)] := ⟨_, rfl⟩
  have RR : Hid (∀ a z, shR f W x r s 17 = (a, z) → RS = #[.string ⟨(dcD a).toArray⟩, .int .i64 (dcE a z)]) := fun a z h => by rw [hRS, h]
  rw [← hRS]
  clear hRS hl lows highs
  have PS : Hid (∀ (a : Nat) (z : Int) (w' : World), 0 < a → a ≤ 100000000000000000 → -1000 ≤ z → z ≤ 1000 → Below w.heap.size w w' → Calls Tryz.prog 42 #[.agg #[.string ⟨(dcD a).toArray⟩, .int .i64 (dcE a z)], .pointer (some ⟨g, 0, none⟩)] w' fun x w'' => x = .returned (.bool (nearV (dcD a) (dcE a z) == f)) ∧ Below w'.heap.size w' w'') := by
    intro a z w' a0 a1 z0 z1 hb
    have l := dc_len a1
    have e := dcE_bd (x := a) (by omega) z
    have := pass_any ⟨(dcD a).toArray⟩ (dcE a z) f g w' (by rw [str_size]; omega) (by rw [str_data]; exact (dc_dig (by omega) a0).1) (by omega) (by omega) (kpo hb hc)
    rw [str_data] at this
    exact this
  have EV : Hid (∀ w' : World, Below w.heap.size w w' → EnvOk w') := fun w' hb => hE.below hb
  clear hc hE
  have K0 := (Blk.new w 78 #[.int .u64 (W : Int), .int .i64 x, .bool r]).alloc (.cells #[.string ⟨#[]⟩, .int .i64 0] 70)
  have KR0 : Blk ((w.alloc (.cells #[.int .u64 (W : Int), .int .i64 x, .bool r] 78)).alloc (.cells #[.string ⟨#[]⟩, .int .i64 0] 70)) (w.heap.size + 1) 70 #[.string ⟨#[]⟩, .int .i64 0] := by
    have := Blk.new (w.alloc (.cells #[.int .u64 (W : Int), .int .i64 x, .bool r] 78)) 70 #[.string ⟨#[]⟩, .int .i64 0]
    simpa using this
  have HB0 := Lib.hid (bel_alloc (bel_alloc (Below.refl w.heap.size w) (.cells #[.int .u64 (W : Int), .int .i64 x, .bool r] 78)) (.cells #[.string ⟨#[]⟩, .int .i64 0] 70))
  go_enter Tryz.func41, Tryz.ntmps41
  go_wp2_with fail
  refine (FU.out _ (EV.out _ HB0.out)).mono ?_
  rintro y w1 ⟨rfl, hb1⟩
  have K1 := K0.below hb1 K0.lt
  have KR1 := KR0.below hb1 KR0.lt
  have HB1 := Lib.hid (bel_trans HB0.out hb1)
  clear hb1 K0 KR0 HB0 FU
  go_wp2_with fail
  clear sz
  go_loopw [13] (fun s13 wr => ∃ k : Nat, s13 = .int .i64 (k : Int) ∧ k ≤ 16 ∧ Hid (shR f W x r s 17 = shR f W x r s (17 - k)) ∧ Blk wr w.heap.size 78 #[.int .u64 (W : Int), .int .i64 x, .bool r] ∧ Blk wr (w.heap.size + 1) 70 #[.string ⟨#[]⟩, .int .i64 0] ∧ Hid (Below w.heap.size w wr)) (fun s13 _ => 17 - (intOf s13).toNat)
  case atStart => exact ⟨0, rfl, by decide, rfl, K1, KR1, HB1⟩
  case round =>
    clear K1 KR1 HB1
    obtain ⟨k, rfl, hk, SH, K2, KR2, HB2⟩ := hrel
    obtain ⟨a, b, z, z0, z1, a0, a1, b0, b1, AR, SS, LL⟩ := ST.out k hk
    have PA := Lib.hid fun w' hb => PS.out a z w' a0 a1 z0 z1 hb
    have PB := Lib.hid fun w' hb => PS.out b z w' b0 b1 z0 z1 hb
    rw [SS] at SH
    have hLL := Lib.hid LL
    have hAR := Lib.hid AR
    clear ST PS SS LL AR a0 a1 b0 b1 z0 z1
    have hl1 : (k : Int) < 17 := by omega
    have esh : (s : Int) - 1 - (k : Int) = ((s - 1 - k : Nat) : Int) := by omega
    obtain ⟨c0, c1, c2, -, -, -⟩ := K2.three
    go_wp2_with fail
    refine (hAR.out _ (EV.out _ HB2.out)).mono ?_
    rintro y w3 ⟨v3, rfl, rfl, hb3⟩
    have K3 := K2.below hb3 K2.lt
    have KR3 := KR2.below hb3 KR2.lt
    have HB3 := Lib.hid (bel_trans HB2.out hb3)
    clear hb3 K2 KR2 HB2 hAR c0 c1 c2
    have QA : Hid (shR f W x r s 17 = (a, z) → RS = #[.string ⟨(dcD a).toArray⟩, .int .i64 (dcE a z)]) := RR.out a z
    have QB : Hid (shR f W x r s 17 = (b, z) → RS = #[.string ⟨(dcD b).toArray⟩, .int .i64 (dcE b z)]) := RR.out b z
    clear RR
    generalize (⟨(dcD a).toArray⟩ : ByteArray) = sa at *
    generalize (⟨(dcD b).toArray⟩ : ByteArray) = sb at *
    go_wp2_with fail
    have I0 := fun w => ixd0 (.string sa) (.int .i64 (dcE a z)) (.string sb) (.int .i64 (dcE b z)) w
    have I1 := fun w => ixd1 (.string sa) (.int .i64 (dcE a z)) (.string sb) (.int .i64 (dcE b z)) w
    refine wp_loop_rounds 3 ?_
    rw [rounds_succ]
    go_wp2_with fail
    have HBa := bel_alloc HB3.out (.cells #[.string sa, .int .i64 (dcE a z)] 70)
    refine (PA.out _ HBa).mono ?_
    rintro y w4 ⟨rfl, hb4⟩
    have hb4' := bel_trans (bel_alloc (Below.refl w3.heap.size w3) (.cells #[.string sa, .int .i64 (dcE a z)] 70)) hb4
    have K4 := K3.below hb4' K3.lt
    have KR4 := KR3.below hb4' KR3.lt
    have KL4 := Blk.made hb4
    have HB4 := Lib.hid (bel_trans HB3.out hb4')
    clear hb4 hb4' K3 KR3 HB3 HBa PA
    obtain ⟨l0, l1, -, -⟩ := KL4.two
    cases hA : (nearV (dcD a) (dcE a z) == f)
    · rw [hA] at SH hLL
      have SHX : Hid (shR f W x r s 17 = if (nearV (dcD b) (dcE b z) == f) = true then (b, z) else shR f W x r s (17 - (k + 1))) := SH
      clear SH hA
      have kn : k ≤ 15 := by
        rcases Nat.lt_or_ge k 16 with h | h
        · omega
        · have := hLL.out (by omega)
          cases this
      clear hLL
      go_wp2_with fail
      rw [rounds_succ]
      go_wp2_with fail
      have HBa := bel_alloc HB4.out (.cells #[.string sb, .int .i64 (dcE b z)] 70)
      refine (PB.out _ HBa).mono ?_
      rintro y w5 ⟨rfl, hb5⟩
      have hb5' := bel_trans (bel_alloc (Below.refl w4.heap.size w4) (.cells #[.string sb, .int .i64 (dcE b z)] 70)) hb5
      have K5 := K4.below hb5' K4.lt
      have KR5 := KR4.below hb5' KR4.lt
      have KL5 := Blk.made hb5
      have HB5 := Lib.hid (bel_trans HB4.out hb5')
      clear hb5 hb5' K4 KR4 HB4 HBa PB l0 l1 KL4
      obtain ⟨l0, l1, -, -⟩ := KL5.two
      cases hB : (nearV (dcD b) (dcE b z) == f)
      · have SHY : Hid (shR f W x r s 17 = shR f W x r s (17 - (k + 1))) := by
          have := SHX.out
          rw [hB] at this
          exact this
        clear SHX hB
        go_wp2_with fail
        rw [rounds_succ]
        go_wp2_with fail
        go_roundw
        case rel => exact ⟨k + 1, by go_num, by omega, SHY, K5, KR5, HB5⟩
        case measure => simp [intOf]; omega
      · have SHY : Hid (shR f W x r s 17 = (b, z)) := by
          have := SHX.out
          rw [hB] at this
          exact this
        clear SHX hB
        obtain ⟨d0, d1, f0, f1⟩ := KR5.two
        go_wp2_with fail
        have K9 := KR5.put2 (.string sb) (.int .i64 (dcE b z))
        have HB9 := Lib.hid (bel_put2 HB5.out (Nat.le_succ _) (.string sb) (.int .i64 (dcE b z)))
        unfold wput2 at K9 HB9
        obtain ⟨q0, q1, -, -⟩ := K9.two
        refine bodyPost_ret (by simp [results, Tryz.results41, go_sem, q0, q1]; (try rfl)) rfl ⟨_, ?_, rfl, HB9.out⟩
        show _ = _
        rw [QB.out SHY.out]
    · rw [hA] at SH
      have SHX : Hid (shR f W x r s 17 = (a, z)) := SH.out
      clear SH hA hLL
      obtain ⟨d0, d1, f0, f1⟩ := KR4.two
      go_wp2_with fail
      have K9 := KR4.put2 (.string sa) (.int .i64 (dcE a z))
      have HB9 := Lib.hid (bel_put2 HB4.out (Nat.le_succ _) (.string sa) (.int .i64 (dcE a z)))
      unfold wput2 at K9 HB9
      obtain ⟨q0, q1, -, -⟩ := K9.two
      refine bodyPost_ret (by simp [results, Tryz.results41, go_sem, q0, q1]; (try rfl)) rfl ⟨_, ?_, rfl, HB9.out⟩
      show _ = _
      rw [QA.out SHX.out]
end Go.Proofs.YthofjlgngandoaaGreatDoor
