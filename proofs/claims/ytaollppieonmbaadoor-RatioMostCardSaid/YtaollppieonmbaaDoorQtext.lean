/-
  Contracts of the reference's Words (one word) and Text on rows of bits. Conditions: rows of at most 2^19 bits.
-/
import Derived.Test.YtaollppieonmbaaDoorQmore
namespace Go.Proofs.YtaollppieonmbaaDoor
open Go.RowKit
set_option maxRecDepth 100000

theorem u64_info : (Tryd.prog.info? 49).map (fun i => (i.zero, i.size, i.bytes)) = some (some (.int .u64 0), 1, 8) := by kernel_rfl
theorem run_make_one (w : World) : (Instr.makeSlice 53 (.int .i64 1) (.int .i64 1)).run Tryd.prog w = .ok (.slice (some ⟨w.heap.size, 0, none⟩) 1 1) (w.alloc (.cells #[.int .u64 0] 49)) := by
  obtain ⟨i0, hi, hz0, hz1, hz2⟩ := info_parts u64_info
  have h := run_make (P := Tryd.prog) w 53 49 i0 (.int .u64 0) Tryd.underlying53 hi hz0 .i64 .i64 (1 : Int) (1 : Int) (by omega) (by omega) (by rw [hz2]; omega) (by omega)
  rw [hz1] at h
  have e : madeCells #[Value.int .u64 0] 1 = #[Value.int .u64 0] := by
    apply Array.ext'
    rw [toList_madeCells_one]
    rfl
  exact h.trans (by rw [← e]; rfl)
theorem or_bit64 (z : Int) (i : Nat) (h0 : 0 ≤ z) (h1 : z < 2 ^ i) (hi : i < 64) : bits BinOp.or IntKind.u64 z (2 ^ i) = z + 2 ^ i := by
  obtain ⟨z, rfl⟩ := Int.eq_ofNat_of_zero_le h0
  have h2 : z < 2 ^ i := by
    have : (z : Int) < ((2 ^ i : Nat) : Int) := by simpa using h1
    omega
  have h3 : 2 ^ i ≤ 2 ^ 63 := Nat.pow_le_pow_right (by decide) (by omega)
  have h4 : (2 : Nat) ^ 63 = 9223372036854775808 := by decide
  have e : (2 : Int) ^ i = ((2 ^ i : Nat) : Int) := by simp
  have e2 : 2 ^ i * 1 + z = 2 ^ i * 1 ||| z := Nat.two_pow_add_eq_or_of_lt h2 1
  rw [Nat.mul_one] at e2
  rw [e, bits_or_u64_nat _ _ (by omega) (by omega), Nat.or_comm, ← e2, Int.natCast_add, Int.add_comm]

/-- One word comes back, in a block of its own. -/
def RetW1 (v : Int) (w : World) (e : Ending) (w' : World) : Prop :=
  ∃ g : Nat, e = .returned (.slice (some ⟨g, 0, none⟩) 1 1) ∧ w.heap.size ≤ g ∧ Blk w' g 49 #[.int .u64 v] ∧ Below w.heap.size w w'

set_option maxHeartbeats 3200000 in
theorem rwords1_any (A : Option Addr) (n c : Nat) (xs : List Bool) (w : World) (hn : xs.length = n) (hx : Rd w A xs) (_ln : n ≤ 1048576) :
    Calls Tryd.prog 75 #[.slice A n c, .int .i64 1] w (RetW1 (val (xs.take 64)) w) := by
  have HN := Lib.hid hn
  have hmk := run_make_one
  obtain ⟨v, hv⟩ : ∃ v, val (xs.take 64) = v := ⟨_, rfl⟩
  rw [hv]
  have HV := Lib.hid hv
  clear hn hv
  go_enter Tryd.func75, Tryd.ntmps75
  go_wp2_with fail
  clear hmk
  go_loopw [6] (fun s6 wr => ∃ (i : Nat) (z : Int), s6 = .int .i64 (i : Int) ∧ i ≤ n ∧ i ≤ 64 ∧ Hid (z = val (xs.take i)) ∧ Blk wr w.heap.size 49 #[.int .u64 z] ∧ Hid (Below w.heap.size w wr)) (fun s6 _ => n - (intOf s6).toNat)
  case atStart => exact ⟨0, 0, rfl, Nat.zero_le _, by omega, by show _ = _; simp [val], Blk.new _ _ _, bel_alloc (Below.refl _ _) _⟩
  case round =>
    obtain ⟨i, z, rfl, hi, hi64, HZ, BZ, HB⟩ := hrel
    by_cases hlt : i < n ∧ i < 64
    · obtain ⟨hl1, hl2⟩ := hlt
      have hxr := hx.below HB.out (Nat.le_refl _)
      obtain ⟨g, off, rfl, hg, hcell⟩ := hxr.at_ (i := i) (by rw [HN.out]; omega)
      have hl3 : (i : Int) < (n : Int) := by omega
      have hl4 : (i : Int) < 64 := by omega
      have hts := val_take_succ xs i
      have z0 : 0 ≤ z := by rw [HZ.out]; exact val_nonneg _
      have z1 : z < 2 ^ i := by
        have h1 := val_lt (xs.take i)
        rw [List.length_take] at h1
        have h2 := pow_mono (min i xs.length) i (by omega)
        have h3 := HZ.out
        omega
      cases ex : xs.getD i false
      · have HZ2 : Hid (z = val (xs.take (i + 1))) := by show _ = _; rw [hts, ex, ← HZ.out]; simp
        rw [ex] at hcell
        clear ex hts hxr HZ
        go_wp2_with fail
        go_roundw
        case rel => exact ⟨i + 1, z, by go_num, by omega, by omega, HZ2, BZ, HB⟩
        case measure => simp [intOf]; omega
      · have HZ2 : Hid (z + 2 ^ i = val (xs.take (i + 1))) := by show _ = _; rw [hts, ex, ← HZ.out]; simp
        have hor := or_bit64 z i z0 z1 hl2
        have p1 := pow_pos' i
        have p2 : (2 : Int) ^ i < 18446744073709551616 := by
          have := pow_mono (i + 1) 64 (by omega)
          rw [Int.pow_succ, show (2 : Int) ^ 64 = 18446744073709551616 by decide] at this
          omega
        have hwr : IntKind.u64.wrap ((2 : Int) ^ i) = 2 ^ i := by rw [IntKind.wrap_u64]; exact Int.emod_eq_of_lt (by omega) p2
        have q0 : wr.cell? ⟨w.heap.size, 0, none⟩ = some (.int .u64 z) := BZ.cell 0
        have q1 := BZ.frozen 0
        have BZ2 := BZ.set_ 0 (.int .u64 (z + 2 ^ i))
        have HB2 : Hid (Below w.heap.size w (wr.setCell ⟨w.heap.size, 0, none⟩ (.int .u64 (z + 2 ^ i)))) := bel_set HB.out (Nat.le_refl _) _
        have d0 : (i : Int) / 64 = 0 := by omega
        have d1 : (i : Int) % 64 = (i : Int) := by omega
        rw [ex] at hcell
        clear ex hts hxr HZ BZ HB
        go_wp2_with fail
        go_roundw
        case rel => exact ⟨i + 1, z + 2 ^ i, by go_num, by omega, by omega, HZ2, BZ2, HB2⟩
        case measure => simp [intOf]; omega
    · have HZ2 : Hid (z = v) := by
        show _ = _
        rw [HZ.out, ← HV.out]
        rcases Nat.lt_or_ge i n with h | h
        · rw [show i = 64 by omega]
        · rw [List.take_of_length_le (by rw [HN.out]; omega), List.take_of_length_le (by rw [HN.out]; omega)]
      by_cases hi2 : i < n
      · have hl3 : (i : Int) < (n : Int) := by omega
        have hl4 : decide ((i : Int) < 64) = false := decide_eq_false (by omega)
        go_wp2_with fail
        go_ret
        exact ⟨w.heap.size, rfl, Nat.le_refl _, by rw [← HZ2.out]; exact BZ, HB.out⟩
      · have hl3 : decide ((i : Int) < (n : Int)) = false := decide_eq_false (by omega)
        go_wp2_with fail
        go_ret
        exact ⟨w.heap.size, rfl, Nat.le_refl _, by rw [← HZ2.out]; exact BZ, HB.out⟩

/-- So many digits of V, the last ones; v is what is left. -/
structure TxR (V v : Int) (l : List UInt8) : Prop where
  dig : l.all isDig = true
  eq : v * 10 ^ l.length + dval l = V
  v0 : 0 ≤ v
  head : v = 0 → ∀ c, l.head? = some c → c.toNat ≠ 48
theorem TxR.next {V v q r : Int} {l : List UInt8} (h : TxR V v l) (e : q * 10 + r = v) (h0 : 0 ≤ r) (h1 : r < 10) (hv : 0 < v) (c : UInt8) (hc : (c.toNat : Int) = 48 + r) : TxR V q (c :: l) := by
  obtain ⟨a1, a2, a3, a4⟩ := h
  refine ⟨?_, ?_, by omega, fun hq c' hc' => ?_⟩
  · simp only [List.all_cons, Bool.and_eq_true]
    refine ⟨?_, a1⟩
    unfold isDig
    simp only [Bool.and_eq_true, decide_eq_true_eq]
    omega
  · rw [dval_cons, List.length_cons, Int.pow_succ, hc, show 48 + r - 48 = r by omega, ← a2, ← e, Int.add_mul, Int.mul_assoc q, Int.mul_comm 10]
    omega
  · simp at hc'
    subst hc'
    omega
theorem TxR.done {V : Int} {l : List UInt8} (h : TxR V 0 l) (hl : l ≠ []) : IsText V l := by
  obtain ⟨a1, a2, a3, a4⟩ := h
  rcases l with _ | ⟨c, l⟩
  · exact absurd rfl hl
  have hc := a4 rfl c rfl
  have h1 := dval_low a1 hc
  have hp : (0 : Int) < 10 ^ l.length := Int.pow_pos (by decide)
  have e : dval (c :: l) = V := by rw [Int.zero_mul] at a2; omega
  exact ⟨a1, e, hl, fun h => by omega, fun _ d hd => by simp at hd; rw [← hd]; exact hc⟩

set_option maxRecDepth 100000 in
set_option maxHeartbeats 6400000 in
theorem rtext_any (A : Option Addr) (n c : Nat) (xs : List Bool) (w : World) (hn : xs.length = n) (hx : Rd w A xs) (N : Nat) (hN : N ≤ 100000) (ln : n ≤ N) :
    Calls Tryd.prog 58 #[.slice A n c] w fun e w' => (∃ s : ByteArray, IsText (val xs) s.data.toList ∧ e = .returned (.string s)) ∧ Below w.heap.size w w' := by
  have HN := Lib.hid hn
  obtain ⟨V, hV⟩ : ∃ V, val xs = V := ⟨_, rfl⟩
  rw [hV]
  have HV := Lib.hid hV
  have hV0 : 0 ≤ V := by rw [← hV]; exact val_nonneg xs
  have HV1 : Hid (V < 2 ^ N) := by
    show _ < _
    have h1 := val_lt xs
    rw [hV, hn] at h1
    have := pow_mono n N ln
    omega
  clear hn hV
  go_enter Tryd.func58, Tryd.ntmps58
  go_wp2_with fail
  refine (rof_any _ 1 1 [10] _ rfl ?hx ?hw (by decide)).mono ?_
  case hx =>
    refine .inr ⟨_, 0, rfl, by simp, fun i y hi => ?_⟩
    rcases i with _ | i
    · simp at hi; subst hi; simp [go_sem]
    · simp at hi
  case hw =>
    intro y hy
    simp at hy
    subst hy
    exact ⟨by decide, by decide⟩
  rintro e w1 ⟨ts, TA, tc, ⟨v1, l1⟩, rfl, hc1, hm1, rt, hb1⟩
  have hx1 := (hx.alloc (.cells #[.int .u64 10] 49)).below hb1 (Nat.le_refl _)
  have HB1 := Lib.hid (bel_trans (bel_alloc (Below.refl w.heap.size w) (.cells #[.int .u64 10] 49)) hb1)
  rw [l1] at hc1 ⊢
  have VT : Hid (val ts = 10) := by show _ = _; rw [v1]; rfl
  have LT : Hid (ts.length = 64) := by show _ = _; rw [l1]; rfl
  clear v1 l1 hb1 hx
  go_wp2_with fail
  go_loopg [0, 4] V.toNat (fun gk s0 s4 wr => ∃ (bs : List Bool) (P : Option Addr) (a ca : Nat) (s : ByteArray), s0 = .slice P a ca ∧ s4 = .string s ∧ gk = (val bs).toNat ∧ Hid (bs.length = a) ∧ a ≤ N ∧ Rd wr P bs ∧ TxR V (val bs) s.data.toList ∧ s.size ≤ N + 1 ∧ Rd wr TA ts ∧ Hid (Below w.heap.size w wr))
  case atStart => exact ⟨xs, A, n, c, ⟨#[]⟩, rfl, rfl, by rw [HV.out], HN, ln, hx1, ⟨rfl, by rw [HV.out]; show V * 10 ^ 0 + dval [] = V; rw [dval_nil]; omega, by rw [HV.out]; exact hV0, (fun _ c hc => by cases hc)⟩, Nat.zero_le _, rt, HB1⟩
  case round =>
    clear hx1 rt HB1
    obtain ⟨bs, P, a, ca, s, rfl, rfl, hgk, lb, la, hP, T, hsz, rt, HB⟩ := hrel
    have b0 := val_nonneg bs
    have CL := Lib.hid (rlen_any P a ca bs wr lb.out hP (by omega))
    have GK := Lib.hid hgk
    clear hgk
    by_cases h0 : val bs = 0
    · rw [h0] at T
      rw [h0, show blen 0 = 0 from rfl] at CL
      clear h0
      by_cases hs : s.data.toList = []
      · have es : s = ByteArray.mk #[] := bytes_eq hs
        subst es
        have FT : Hid (IsText V [48]) := by
          show IsText _ _
          have e := T.eq
          have e0 : V = 0 := by rw [← e]; simp [dval_nil]
          rw [e0]
          exact ⟨by decide, by decide, by simp, fun _ => rfl, fun h => absurd rfl h⟩
        clear T hs
        go_wp2_with fail
        refine CL.out.mono ?_
        rintro e w2 ⟨rfl, rfl⟩
        clear CL
        go_wp2_with fail
        go_ret
        exact ⟨⟨_, FT.out, rfl⟩, HB.out⟩
      · have FT := Lib.hid (T.done hs)
        have hs1 : s.toList.isEmpty = false := by rw [Lib.toList_data]; simpa using hs
        have hs2 : ¬ s.toList = [] := by rw [Lib.toList_data]; exact hs
        clear T hs
        go_wp2_with fail
        refine CL.out.mono ?_
        rintro e w2 ⟨rfl, rfl⟩
        clear CL
        go_wp2_with fail
        go_ret
        exact ⟨⟨s, FT.out, rfl⟩, HB.out⟩
    · have hp : 0 < val bs := by omega
      obtain ⟨bl, hbl, _, ge, _⟩ := blen_spec b0
      have hbl1 := (ge hp).2
      rw [hbl] at CL
      clear hbl ge h0
      have hbl2 : (0 : Int) < (bl : Int) := by omega
      have hsl : s.size ≤ N := by
        have h1 := dig_bound T.eq hp (dval_bd T.dig).1 HV1.out
        rw [Lib.size_eq]
        omega
      go_wp2_with fail
      refine CL.out.mono ?_
      rintro e w2 ⟨rfl, rfl⟩
      clear CL
      go_wp2_with fail
      refine (rdiv_any P TA a 64 ca tc bs ts wr lb.out LT.out hP rt (by omega) (by omega) (by rw [VT.out]; decide)).mono ?_
      rw [VT.out]
      rintro e w3 ⟨qs, rs, A3, B3, c3, d3, hq, rfl, hc3, hd3, hr3, hs3, hb3⟩
      obtain ⟨e1, e2, e3, e4, e5⟩ := hq
      have rt3 := rt.below hb3 (Nat.le_refl _)
      have HB3 := Lib.hid (bel_trans HB.out hb3)
      obtain ⟨nr, hnr⟩ : ∃ nr, rs.length = nr := ⟨_, rfl⟩
      obtain ⟨nq, hnq⟩ : ∃ nq, qs.length = nq := ⟨_, rfl⟩
      have lnq : nq ≤ N := by rw [← hnq, e4]; exact la
      have lnr : nr ≤ 64 := by rw [← hnr]; exact e5
      rw [hnr] at hd3 ⊢
      rw [hnq] at hc3 ⊢
      have LR := Lib.hid hnr
      have LQ := Lib.hid hnq
      have r64 : Hid (val (rs.take 64) = val rs) := val_take_small (by rw [show (2 : Int) ^ 64 = 18446744073709551616 by decide]; omega)
      have TN : Hid (∀ ch : UInt8, (ch.toNat : Int) = 48 + val rs → TxR V (val qs) (ch :: s.data.toList)) := fun ch hch => T.next e1 e2 e3 hp ch hch
      have MS : Hid ((val qs).toNat < (val bs).toNat) := by
        show _ < _
        have := val_nonneg qs
        omega
      clear hnr hnq e1 e4 e5 hb3 HB rt hP T
      go_wp2_with fail
      refine (rwords1_any B3 nr d3 rs _ LR.out hs3 (by omega)).mono ?_
      rw [r64.out]
      rintro e w4 ⟨g4, rfl, hg4, BK, hb4⟩
      have q0 : w4.cell? ⟨g4, 0, none⟩ = some (.int .u64 (val rs)) := BK.cell 0
      have rt4 := rt3.below hb4 (Nat.le_refl _)
      have hr4 := hr3.below hb4 (Nat.le_refl _)
      have HB4 := Lib.hid (bel_trans HB3.out hb4)
      have hg4' := BK.lt
      clear hb4 HB3 rt3 hr3 hs3 r64 BK
      generalize val rs = rv at *
      have CV := run_convert_bytes_arg (P := Tryd.prog) (w4.alloc (.cells #[.int .u8 (48 + rv)] 5)) 98 5 Tryd.underlying98 Tryd.underlying5 w4.heap.size 0 1 1 [48 + rv] rfl (fun j hj => by
        obtain rfl : j = 0 := by omega
        simp [go_sem]) 9 Tryd.underlying9
      have hsz2 : ¬ 9223372036854775807 < (strOfNums [48 + rv]).size + s.size := by rw [strOfNums_size]; simp; omega
      have hrv : ((toU8 (48 + rv)).toNat : Int) = 48 + rv := toU8_nat ⟨by omega, by omega⟩
      have ed : (strOfNums [48 + rv] ++ s).data.toList = toU8 (48 + rv) :: s.data.toList := by
        rw [ByteArray.data_append, Array.toList_append, strOfNums_data]
        rfl
      have T2 : Hid (TxR V (val qs) (strOfNums [48 + rv] ++ s).data.toList) := by
        show TxR _ _ _
        rw [ed]
        exact TN.out _ hrv
      have S2 : Hid ((strOfNums [48 + rv] ++ s).size ≤ N + 1) := by
        show _ ≤ _
        rw [Lib.size_eq, ed, List.length_cons, ← Lib.size_eq]
        omega
      obtain ⟨K, hK, hKm, hKv⟩ := blen_bound (val_nonneg qs) (val_lt qs)
      rw [LQ.out] at hKm
      have hr5 := hr4.alloc (.cells #[.int .u8 (48 + rv)] 5)
      have rt5 := rt4.alloc (.cells #[.int .u8 (48 + rv)] 5)
      have HB5 : Hid (Below w.heap.size w (w4.alloc (.cells #[.int .u8 (48 + rv)] 5))) := bel_alloc HB4.out _
      have CL2 := Lib.hid (rlen_any A3 nq c3 qs _ LQ.out hr5 (by omega))
      rw [hK] at CL2
      have r6 := hr5.take K
      have VK : Hid (val (qs.take K) = val qs) := val_take_small hKv
      have LK : Hid ((qs.take K).length = K) := by show _ = _; rw [List.length_take, LQ.out]; omega
      have T3 : Hid (TxR V (val (qs.take K)) (strOfNums [48 + rv] ++ s).data.toList) := by rw [VK.out]; exact T2
      have MS2 : Hid ((val (qs.take K)).toNat < (val bs).toNat) := by rw [VK.out]; exact MS
      have hKc : (K : Int) ≤ (c3 : Int) := by omega
      clear hrv ed T2 TN hK hKv hr4 rt4 HB4 hr5 VK MS
      generalize qs.take K = ks at *
      go_wp2_with fail
      refine CL2.out.mono ?_
      rintro e w5 ⟨rfl, rfl⟩
      clear CL2
      go_wp2_with fail
      go_roundg (val ks).toNat
      case measure => rw [GK.out]; exact MS2.out
      case rel => exact ⟨ks, A3, K, c3, _, rfl, rfl, rfl, LK, by omega, r6, T3.out, S2.out, rt5, HB5⟩
end Go.Proofs.YtaollppieonmbaaDoor
