/-
  The walks of SoftTurns, SoftRises and SoftSums: whatever is handed in, the laws answer true. Conditions: floats are words.
-/
import Derived.Test.YtkdckclefegocaaMath6d
import Derived.Test.YtkdckclefegocaaWorks6
import Derived.Test.YtkdckclefegocaaSofK
import Derived.Test.YtkdckclefegocaaQopenF
namespace Go.Proofs.Ytkdckclefegocaa
open Go.RowKit
set_option maxRecDepth 100000

theorem turned_cmp {s u : Int} (hu : Word u) (h : Turned s u) (hn : fC s ≠ 4) : fCmp (fNg u) s = 0 ∧ fOk (fNg u) s = true := by
  obtain ⟨k1, k2⟩ := h.key hn
  obtain ⟨g1, g2, -, -⟩ := fNg_key hu k1
  obtain ⟨o1, o2⟩ := fOk_yes (a := fNg u) (b := s) g1 hn
  refine ⟨?_, o1⟩
  rw [o2, g2, k2, Int.neg_neg, cmpI_eq]

set_option maxHeartbeats 4000000 in
theorem lturns_walk (a b md : Int) (w : World) (ha : Word a) (hb : Word b) :
    Calls Try.prog 7 #[.int .u64 a, .int .u64 b, .int .u8 md] w fun x w' => x = .returned (.bool true) ∧ Below w.heap.size w w' := by
  have wu : Word (saF (mdT true md) (fNg a) (fNg b)) := saF_word (fNg_word ha) (fNg_word hb)
  have ws : Word (saF md a b) := saF_word ha hb
  have T := sa_turn ha hb md
  have S1 := Lib.hid (fun w => sadd_any a b md ha hb w)
  have S2 := fun w => sadd_any b a md hb ha w
  rw [(sa_comm ha hb md).1, (sa_comm ha hb md).2] at S2
  have S2 := Lib.hid S2
  have S3 := Lib.hid (fun w => smul_any a b md ha hb w)
  have S4 := fun w => smul_any b a md hb ha w
  rw [(ml_comm md a b).1, (ml_comm md a b).2] at S4
  have S4 := Lib.hid S4
  have S5 := Lib.hid (fun w => sadd_any (fNg a) (fNg b) (mdT true md) (fNg_word ha) (fNg_word hb) w)
  have NA := Lib.hid (fun w => neg_f a ha w)
  have NB := Lib.hid (fun w => neg_f b hb w)
  generalize saF md a b = s at *
  generalize saG md a b = f at *
  generalize mlF md a b = m at *
  generalize mlG md a b = h at *
  generalize saF (mdT true md) (fNg a) (fNg b) = u at *
  generalize saG (mdT true md) (fNg a) (fNg b) = uf at *
  have NU := Lib.hid (fun w => neg_f u wu w)
  have wn := fNg_word wu
  have CM := Lib.hid (fun w => cmp_any (fNg u) s wn ws w)
  have CS := Lib.hid (fun w => class_any s ws w)
  generalize fNg a = na at *
  generalize fNg b = nb at *
  have res : (fC s == 4) = true ∧ (u == s) = true ∨ (fC s == 4) = false ∧ fCmp (fNg u) s = 0 ∧ fOk (fNg u) s = true := by
    by_cases h4 : fC s = 4
    · left
      rw [T.nan h4]
      exact ⟨by simp [h4], by simp⟩
    · right
      obtain ⟨c1, c2⟩ := turned_cmp wu T h4
      exact ⟨by simp [h4], c1, c2⟩
  have HR := Lib.hid res
  clear res T
  generalize fCmp (fNg u) s = cc at *
  generalize fOk (fNg u) s = ok at *
  generalize fNg u = nu at *
  generalize fC s = cs at *
  by_cases m1 : md = 1
  · have e : mdT true md = 2 := by unfold mdT; rw [if_pos rfl, if_pos m1]
    rw [e] at S5
    have tm : (md == 1) = true := by simp [m1]
    clear e m1
    go_enter Try.func7, Try.ntmps7
    go_wp2_with fail
    refine (works6 _).mono ?_
    rintro x w1 ⟨rfl, hb1⟩
    have HB1 := Lib.hid hb1
    clear hb1
    go_wp2_with fail
    refine (S1.out _).mono ?_
    rintro x w2 ⟨rfl, hb2⟩
    have HB2 := Lib.hid (bel_trans HB1.out hb2)
    clear hb2 HB1
    go_wp2_with fail
    refine (S2.out _).mono ?_
    rintro x w3 ⟨rfl, hb3⟩
    have HB3 := Lib.hid (bel_trans HB2.out hb3)
    clear hb3 HB2
    go_wp2_with fail
    refine (S3.out _).mono ?_
    rintro x w4 ⟨rfl, hb4⟩
    have HB4 := Lib.hid (bel_trans HB3.out hb4)
    clear hb4 HB3
    go_wp2_with fail
    refine (S4.out _).mono ?_
    rintro x w5 ⟨rfl, hb5⟩
    have HB5 := Lib.hid (bel_trans HB4.out hb5)
    clear hb5 HB4
    go_wp2_with fail
    refine (NA.out _).mono ?_
    rintro x w6 ⟨rfl, rfl⟩
    go_wp2_with fail
    refine (NB.out _).mono ?_
    rintro x w6 ⟨rfl, rfl⟩
    go_wp2_with fail
    refine (S5.out _).mono ?_
    rintro x w6 ⟨rfl, hb6⟩
    have HB6 := Lib.hid (bel_trans HB5.out hb6)
    clear hb6 HB5
    go_wp2_with fail
    refine (NU.out _).mono ?_
    rintro x w7 ⟨rfl, rfl⟩
    go_wp2_with fail
    refine (CM.out _).mono ?_
    rintro x w7 ⟨rfl, rfl⟩
    go_wp2_with fail
    refine (CS.out _).mono ?_
    rintro x w7 ⟨rfl, rfl⟩
    rcases HR.out with ⟨r1, r2⟩ | ⟨r1, r2, r3⟩
    · go_wp2_with fail
      go_ret
      exact ⟨rfl, HB6.out⟩
    · go_wp2_with fail
      go_ret
      exact ⟨rfl, HB6.out⟩
  · by_cases m2 : md = 2
    · have e : mdT true md = 1 := by unfold mdT; rw [if_pos rfl, if_neg m1, if_pos m2]
      rw [e] at S5
      have tm : (md == 1) = false := by simp [m1]
      have tm2 : (md == 2) = true := by simp [m2]
      clear e m1 m2
      go_enter Try.func7, Try.ntmps7
      go_wp2_with fail
      refine (works6 _).mono ?_
      rintro x w1 ⟨rfl, hb1⟩
      have HB1 := Lib.hid hb1
      clear hb1
      go_wp2_with fail
      refine (S1.out _).mono ?_
      rintro x w2 ⟨rfl, hb2⟩
      have HB2 := Lib.hid (bel_trans HB1.out hb2)
      clear hb2 HB1
      go_wp2_with fail
      refine (S2.out _).mono ?_
      rintro x w3 ⟨rfl, hb3⟩
      have HB3 := Lib.hid (bel_trans HB2.out hb3)
      clear hb3 HB2
      go_wp2_with fail
      refine (S3.out _).mono ?_
      rintro x w4 ⟨rfl, hb4⟩
      have HB4 := Lib.hid (bel_trans HB3.out hb4)
      clear hb4 HB3
      go_wp2_with fail
      refine (S4.out _).mono ?_
      rintro x w5 ⟨rfl, hb5⟩
      have HB5 := Lib.hid (bel_trans HB4.out hb5)
      clear hb5 HB4
      go_wp2_with fail
      refine (NA.out _).mono ?_
      rintro x w6 ⟨rfl, rfl⟩
      go_wp2_with fail
      refine (NB.out _).mono ?_
      rintro x w6 ⟨rfl, rfl⟩
      go_wp2_with fail
      refine (S5.out _).mono ?_
      rintro x w6 ⟨rfl, hb6⟩
      have HB6 := Lib.hid (bel_trans HB5.out hb6)
      clear hb6 HB5
      go_wp2_with fail
      refine (NU.out _).mono ?_
      rintro x w7 ⟨rfl, rfl⟩
      go_wp2_with fail
      refine (CM.out _).mono ?_
      rintro x w7 ⟨rfl, rfl⟩
      go_wp2_with fail
      refine (CS.out _).mono ?_
      rintro x w7 ⟨rfl, rfl⟩
      rcases HR.out with ⟨r1, r2⟩ | ⟨r1, r2, r3⟩
      · go_wp2_with fail
        go_ret
        exact ⟨rfl, HB6.out⟩
      · go_wp2_with fail
        go_ret
        exact ⟨rfl, HB6.out⟩
    · have e : mdT true md = md := by unfold mdT; rw [if_pos rfl, if_neg m1, if_neg m2]
      rw [e] at S5
      have tm : (md == 1) = false := by simp [m1]
      have tm2 : (md == 2) = false := by simp [m2]
      clear e m1 m2
      go_enter Try.func7, Try.ntmps7
      go_wp2_with fail
      refine (works6 _).mono ?_
      rintro x w1 ⟨rfl, hb1⟩
      have HB1 := Lib.hid hb1
      clear hb1
      go_wp2_with fail
      refine (S1.out _).mono ?_
      rintro x w2 ⟨rfl, hb2⟩
      have HB2 := Lib.hid (bel_trans HB1.out hb2)
      clear hb2 HB1
      go_wp2_with fail
      refine (S2.out _).mono ?_
      rintro x w3 ⟨rfl, hb3⟩
      have HB3 := Lib.hid (bel_trans HB2.out hb3)
      clear hb3 HB2
      go_wp2_with fail
      refine (S3.out _).mono ?_
      rintro x w4 ⟨rfl, hb4⟩
      have HB4 := Lib.hid (bel_trans HB3.out hb4)
      clear hb4 HB3
      go_wp2_with fail
      refine (S4.out _).mono ?_
      rintro x w5 ⟨rfl, hb5⟩
      have HB5 := Lib.hid (bel_trans HB4.out hb5)
      clear hb5 HB4
      go_wp2_with fail
      refine (NA.out _).mono ?_
      rintro x w6 ⟨rfl, rfl⟩
      go_wp2_with fail
      refine (NB.out _).mono ?_
      rintro x w6 ⟨rfl, rfl⟩
      go_wp2_with fail
      refine (S5.out _).mono ?_
      rintro x w6 ⟨rfl, hb6⟩
      have HB6 := Lib.hid (bel_trans HB5.out hb6)
      clear hb6 HB5
      go_wp2_with fail
      refine (NU.out _).mono ?_
      rintro x w7 ⟨rfl, rfl⟩
      go_wp2_with fail
      refine (CM.out _).mono ?_
      rintro x w7 ⟨rfl, rfl⟩
      go_wp2_with fail
      refine (CS.out _).mono ?_
      rintro x w7 ⟨rfl, rfl⟩
      rcases HR.out with ⟨r1, r2⟩ | ⟨r1, r2, r3⟩
      · go_wp2_with fail
        go_ret
        exact ⟨rfl, HB6.out⟩
      · go_wp2_with fail
        go_ret
        exact ⟨rfl, HB6.out⟩

set_option maxHeartbeats 4000000 in
theorem lrises_walk (a b c md : Int) (w : World) (ha : Word a) (hb : Word b) (hc : Word c) :
    Calls Try.prog 8 #[.int .u64 a, .int .u64 b, .int .u64 c, .int .u8 md] w fun x w' => x = .returned (.bool true) ∧ Below w.heap.size w w' := by
  have CA := Lib.hid (fun w => class_any a ha w)
  have CB := Lib.hid (fun w => class_any b hb w)
  have CC := Lib.hid (fun w => class_any c hc w)
  by_cases na : fC a = 4
  · have t0 : (fC a == 4) = true := by simp [na]
    clear na
    generalize fC a = ca at *
    go_enter Try.func8, Try.ntmps8
    go_wp2_with fail
    refine (works6 _).mono ?_
    rintro x w1 ⟨rfl, hb1⟩
    have HB1 := Lib.hid hb1
    clear hb1
    go_wp2_with fail
    refine (CA.out _).mono ?_
    rintro x w2 ⟨rfl, rfl⟩
    go_wp2_with fail
    go_ret
    exact ⟨rfl, HB1.out⟩
  by_cases nb : fC b = 4
  · have t0 : (fC a == 4) = false := by simp [na]
    have t1 : (fC b == 4) = true := by simp [nb]
    clear na nb
    generalize fC a = ca at *
    generalize fC b = cb at *
    go_enter Try.func8, Try.ntmps8
    go_wp2_with fail
    refine (works6 _).mono ?_
    rintro x w1 ⟨rfl, hb1⟩
    have HB1 := Lib.hid hb1
    clear hb1
    go_wp2_with fail
    refine (CA.out _).mono ?_
    rintro x w2 ⟨rfl, rfl⟩
    go_wp2_with fail
    refine (CB.out _).mono ?_
    rintro x w2 ⟨rfl, rfl⟩
    go_wp2_with fail
    go_ret
    exact ⟨rfl, HB1.out⟩
  by_cases nc : fC c = 4
  · have t0 : (fC a == 4) = false := by simp [na]
    have t1 : (fC b == 4) = false := by simp [nb]
    have t2 : (fC c == 4) = true := by simp [nc]
    clear na nb nc
    generalize fC a = ca at *
    generalize fC b = cb at *
    generalize fC c = cc at *
    go_enter Try.func8, Try.ntmps8
    go_wp2_with fail
    refine (works6 _).mono ?_
    rintro x w1 ⟨rfl, hb1⟩
    have HB1 := Lib.hid hb1
    clear hb1
    go_wp2_with fail
    refine (CA.out _).mono ?_
    rintro x w2 ⟨rfl, rfl⟩
    go_wp2_with fail
    refine (CB.out _).mono ?_
    rintro x w2 ⟨rfl, rfl⟩
    go_wp2_with fail
    refine (CC.out _).mono ?_
    rintro x w2 ⟨rfl, rfl⟩
    go_wp2_with fail
    go_ret
    exact ⟨rfl, HB1.out⟩
  have t0 : (fC a == 4) = false := by simp [na]
  have t1 : (fC b == 4) = false := by simp [nb]
  have t2 : (fC c == 4) = false := by simp [nc]
  by_cases hl : fK a < fK b
  · have LL := Lib.hid (fun w => less_any a b ha hb w)
    rw [fLt_key na nb, decide_eq_true hl] at LL
    have wz : Word (fAb c) := by
      unfold fAb
      rw [if_neg nc]
      exact ⟨by omega, by omega⟩
    obtain ⟨c0, c1, c2, -⟩ := kS_of hc nc
    have e1 : fAb c = c % 9223372036854775808 + sg false := by
      unfold fAb
      rw [if_neg nc]
      simp [sg]
    have nz : fC (fAb c) ≠ 4 := by rw [e1]; exact (kS_class c0 c1).1
    have sz : fS (fAb c) = false := by rw [e1]; exact (kS_parts c0 c1).1
    have r1 := not_lt (add_rises ha hb hc na nb nc hl md)
    have r2 := not_lt (mul_rises ha hb wz na nb nz sz hl md)
    obtain ⟨m1, m2⟩ := mul_modes (a := a) (b := c) na nc
    have r3 := not_lt m1
    have r4 := not_lt m2
    have w1 : Word (saF md a c) := saF_word ha hc
    have w2 : Word (saF md b c) := saF_word hb hc
    have S1 := Lib.hid (fun w => sadd_any a c md ha hc w)
    have S2 := Lib.hid (fun w => sadd_any b c md hb hc w)
    have AB := Lib.hid (fun w => abs_f c hc w)
    have S3 := Lib.hid (fun w => smul_any a (fAb c) md ha wz w)
    have S4 := Lib.hid (fun w => smul_any b (fAb c) md hb wz w)
    have S5 := Lib.hid (fun w => smul_any a c 2 ha hc w)
    have S6 := Lib.hid (fun w => smul_any a c 0 ha hc w)
    have S7 := Lib.hid (fun w => smul_any a c 1 ha hc w)
    have L1 := Lib.hid (fun w => less_any (saF md b c) (saF md a c) w2 w1 w)
    have L2 := Lib.hid (fun w => less_any (mlF md b (fAb c)) (mlF md a (fAb c)) (mlF_word _ _ _) (mlF_word _ _ _) w)
    have L3 := Lib.hid (fun w => less_any (mlF 0 a c) (mlF 2 a c) (mlF_word _ _ _) (mlF_word _ _ _) w)
    have L4 := Lib.hid (fun w => less_any (mlF 1 a c) (mlF 0 a c) (mlF_word _ _ _) (mlF_word _ _ _) w)
    rw [r1] at L1
    rw [r2] at L2
    rw [r3] at L3
    rw [r4] at L4
    clear na nb nc hl e1 nz sz r1 r2 r3 r4 m1 m2 w1 w2 c0 c1 c2 wz
    generalize saF md a c = x1 at *
    generalize saG md a c = x2 at *
    generalize saF md b c = x3 at *
    generalize saG md b c = x4 at *
    generalize mlF md a (fAb c) = x5 at *
    generalize mlG md a (fAb c) = x6 at *
    generalize mlF md b (fAb c) = x7 at *
    generalize mlG md b (fAb c) = x8 at *
    generalize mlF 2 a c = x9 at *
    generalize mlG 2 a c = y1 at *
    generalize mlF 0 a c = y2 at *
    generalize mlG 0 a c = y3 at *
    generalize mlF 1 a c = y4 at *
    generalize mlG 1 a c = y5 at *
    generalize fAb c = zz at *
    generalize fC a = ca at *
    generalize fC b = cb at *
    generalize fC c = cc at *
    go_enter Try.func8, Try.ntmps8
    go_wp2_with fail
    refine (works6 _).mono ?_
    rintro x w1 ⟨rfl, hb1⟩
    have HB1 := Lib.hid hb1
    clear hb1
    go_wp2_with fail
    refine (CA.out _).mono ?_
    rintro x w2 ⟨rfl, rfl⟩
    go_wp2_with fail
    refine (CB.out _).mono ?_
    rintro x w2 ⟨rfl, rfl⟩
    go_wp2_with fail
    refine (CC.out _).mono ?_
    rintro x w2 ⟨rfl, rfl⟩
    go_wp2_with fail
    refine (LL.out _).mono ?_
    rintro x w2 ⟨rfl, rfl⟩
    go_wp2_with fail
    refine (S1.out _).mono ?_
    rintro x w2 ⟨rfl, hb2⟩
    have HB2 := Lib.hid (bel_trans HB1.out hb2)
    clear hb2 HB1
    go_wp2_with fail
    refine (S2.out _).mono ?_
    rintro x w3 ⟨rfl, hb3⟩
    have HB3 := Lib.hid (bel_trans HB2.out hb3)
    clear hb3 HB2
    go_wp2_with fail
    refine (AB.out _).mono ?_
    rintro x w4 ⟨rfl, rfl⟩
    go_wp2_with fail
    refine (S3.out _).mono ?_
    rintro x w4 ⟨rfl, hb4⟩
    have HB4 := Lib.hid (bel_trans HB3.out hb4)
    clear hb4 HB3
    go_wp2_with fail
    refine (S4.out _).mono ?_
    rintro x w5 ⟨rfl, hb5⟩
    have HB5 := Lib.hid (bel_trans HB4.out hb5)
    clear hb5 HB4
    go_wp2_with fail
    refine (S5.out _).mono ?_
    rintro x w6 ⟨rfl, hb6⟩
    have HB6 := Lib.hid (bel_trans HB5.out hb6)
    clear hb6 HB5
    go_wp2_with fail
    refine (S6.out _).mono ?_
    rintro x w7 ⟨rfl, hb7⟩
    have HB7 := Lib.hid (bel_trans HB6.out hb7)
    clear hb7 HB6
    go_wp2_with fail
    refine (S7.out _).mono ?_
    rintro x w8 ⟨rfl, hb8⟩
    have HB8 := Lib.hid (bel_trans HB7.out hb8)
    clear hb8 HB7
    go_wp2_with fail
    refine (L1.out _).mono ?_
    rintro x w9 ⟨rfl, rfl⟩
    go_wp2_with fail
    refine (L2.out _).mono ?_
    rintro x w9 ⟨rfl, rfl⟩
    go_wp2_with fail
    refine (L3.out _).mono ?_
    rintro x w9 ⟨rfl, rfl⟩
    go_wp2_with fail
    refine (L4.out _).mono ?_
    rintro x w9 ⟨rfl, rfl⟩
    go_wp2_with fail
    go_ret
    exact ⟨rfl, HB8.out⟩
  · have LL := Lib.hid (fun w => less_any a b ha hb w)
    rw [fLt_key na nb, decide_eq_false hl] at LL
    clear na nb nc hl
    generalize fC a = ca at *
    generalize fC b = cb at *
    generalize fC c = cc at *
    go_enter Try.func8, Try.ntmps8
    go_wp2_with fail
    refine (works6 _).mono ?_
    rintro x w1 ⟨rfl, hb1⟩
    have HB1 := Lib.hid hb1
    clear hb1
    go_wp2_with fail
    refine (CA.out _).mono ?_
    rintro x w2 ⟨rfl, rfl⟩
    go_wp2_with fail
    refine (CB.out _).mono ?_
    rintro x w2 ⟨rfl, rfl⟩
    go_wp2_with fail
    refine (CC.out _).mono ?_
    rintro x w2 ⟨rfl, rfl⟩
    go_wp2_with fail
    refine (LL.out _).mono ?_
    rintro x w2 ⟨rfl, rfl⟩
    go_wp2_with fail
    go_ret
    exact ⟨rfl, HB1.out⟩
end Go.Proofs.Ytkdckclefegocaa
