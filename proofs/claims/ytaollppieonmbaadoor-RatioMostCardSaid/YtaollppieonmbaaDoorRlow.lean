/-
  Contracts of ratio's isZero, Sign, Int, lowest, reduced, New, Neg1 and Abs: a fraction in lowest terms. Conditions: the parts are of at most 2^18 words; the table of math/bits stands in its variable.
-/
import Derived.Test.YtaollppieonmbaaDoorRval
namespace Go.Proofs.YtaollppieonmbaaDoor
open Go.RowKit
set_option maxRecDepth 100000

theorem blen_zero {p : Int} (h : 0 ≤ p) : (blen p == 0) = decide (p = 0) := by
  by_cases h0 : p = 0
  · subst h0; rfl
  · rw [blen_pos (by omega), decide_eq_false h0]
theorem isZero_any {w : World} {x : Value} {p : Int} {L : Nat} (h : NatV w x p L) (hL : L ≤ 1048576) : Calls Tryd.prog 55 #[x] w fun e w' => e = .returned (.bool (decide (p = 0))) ∧ w = w' := by
  have C := Lib.hid (nlenV h hL)
  have B := Lib.hid (blen_zero h.nonneg)
  generalize blen p = b at *
  generalize decide (p = 0) = d at *
  clear h
  go_enter Tryd.func55, Tryd.ntmps55
  go_wp2_with fail
  refine C.out.mono ?_
  rintro e w1 ⟨rfl, rfl⟩
  go_wp2_with fail
  go_ret
  exact ⟨ret_bool B.out, rfl⟩

theorem sign_any {w : World} {x y z : Value} {L : Nat} {r : Rat} (h : RV w x y z L r) (hL : L ≤ 1048576) : Calls Tryd.prog 27 #[.agg #[x, y, z]] w fun e w' => e = .returned (.int .i64 (sgn r)) ∧ Below w.heap.size w w' := by
  obtain ⟨s, p, q, rfl, hy, hz, hr⟩ := h
  have F := Lib.hid (sgn_rv (s := s) hy.nonneg hz.nonneg)
  rw [hr] at F
  generalize sgn r = g at *
  have C1 := fun o => isZero_any (hy.alloc o) hL
  have C2 := fun o => isZero_any (hz.alloc o) hL
  by_cases h1 : p = 0
  · have F2 : Hid (0 = g) := by show _ = _; rw [F.out, if_pos (.inl h1)]
    have D1 : decide (p = 0) = true := decide_eq_true h1
    generalize decide (p = 0) = d1 at *
    generalize decide (q = 0) = d2 at *
    subst D1
    clear h1 F hy hz
    go_enter Tryd.func27, Tryd.ntmps27
    go_wp2_with fail
    refine (C1 _).mono ?_
    rintro e w1 ⟨rfl, rfl⟩
    go_wp2_with fail
    go_ret
    exact ⟨ret_int F2.out, bel_alloc (Below.refl _ _) _⟩
  · have D1 : decide (p = 0) = false := decide_eq_false h1
    by_cases h2 : q = 0
    · have F2 : Hid (0 = g) := by show _ = _; rw [F.out, if_pos (.inr h2)]
      have D2 : decide (q = 0) = true := decide_eq_true h2
      generalize decide (p = 0) = d1 at *
      generalize decide (q = 0) = d2 at *
      subst D1 D2
      clear h1 h2 F hy hz
      go_enter Tryd.func27, Tryd.ntmps27
      go_wp2_with fail
      refine (C1 _).mono ?_
      rintro e w1 ⟨rfl, rfl⟩
      go_wp2_with fail
      refine (C2 _).mono ?_
      rintro e w1 ⟨rfl, rfl⟩
      go_wp2_with fail
      go_ret
      exact ⟨ret_int F2.out, bel_alloc (Below.refl _ _) _⟩
    · have D2 : decide (q = 0) = false := decide_eq_false h2
      have F2 : Hid ((if s then -1 else 1) = g) := by show _ = _; rw [F.out, if_neg (show ¬ (p = 0 ∨ q = 0) by omega)]
      generalize decide (p = 0) = d1 at *
      generalize decide (q = 0) = d2 at *
      subst D1 D2
      clear h1 h2 F hy hz
      cases s
      · go_enter Tryd.func27, Tryd.ntmps27
        go_wp2_with fail
        refine (C1 _).mono ?_
        rintro e w1 ⟨rfl, rfl⟩
        go_wp2_with fail
        refine (C2 _).mono ?_
        rintro e w1 ⟨rfl, rfl⟩
        go_wp2_with fail
        go_ret
        exact ⟨ret_int F2.out, bel_alloc (Below.refl _ _) _⟩
      · go_enter Tryd.func27, Tryd.ntmps27
        go_wp2_with fail
        refine (C1 _).mono ?_
        rintro e w1 ⟨rfl, rfl⟩
        go_wp2_with fail
        refine (C2 _).mono ?_
        rintro e w1 ⟨rfl, rfl⟩
        go_wp2_with fail
        go_ret
        exact ⟨ret_int F2.out, bel_alloc (Below.refl _ _) _⟩

theorem nat0 {w : World} (L : Nat) (w1 : World) : NatV w (.slice none 0 0) 0 L ∧ NatC w1 (.slice none 0 0) 0 L := ⟨⟨none, 0, 0, [], rfl, rfl, Nat.le_refl _, .inl rfl, AllW.nil, rfl, Nat.zero_le _⟩, ⟨none, 0, 0, [], rfl, rfl, Nat.le_refl _, .inl rfl, IsNat.nil, Nat.zero_le _⟩⟩
theorem NatC.fit {w : World} {v : Value} {p : Int} {L M : Nat} (h : NatC w v p L) (k : p < 2 ^ (32 * M)) : NatC w v p M := by
  obtain ⟨A, n, c, us, e, hn, hc, hr, hi, hl⟩ := h
  exact ⟨A, n, c, us, e, hn, hc, hr, hi, by rw [← hn]; exact hi.le k⟩
/-- A whole number as a fraction. -/
def intR (x : Int) : Rat := mkRat x 1
theorem intR_parts (x : Int) : rs (intR x) = decide (x < 0) ∧ rp (intR x) = x.natAbs ∧ rq (intR x) = 1 := by
  unfold intR rs rp rq
  rw [Rat.num_mkRat, Rat.den_mkRat]
  simp
theorem abs_word {x : Int} (h : -9223372036854775808 ≤ x ∧ x ≤ 9223372036854775807) : (x < 0 → IntKind.u64.wrap (-IntKind.u64.wrap x) = (x.natAbs : Int)) ∧ (¬ x < 0 → x = (x.natAbs : Int)) ∧ Word (x.natAbs : Int) := by
  refine ⟨fun hs => ?_, fun hs => by omega, by omega, by omega⟩
  simp [IntKind.wrap, IntKind.bits, IntKind.signed]
  omega

set_option maxHeartbeats 1000000 in
theorem int_any (x : Int) (hx : -9223372036854775808 ≤ x ∧ x ≤ 9223372036854775807) (w : World) : Calls Tryd.prog 35 #[.int .i64 x] w (RetR (intR x) 2 w) := by
  obtain ⟨E1, E2, W1⟩ := abs_word hx
  obtain ⟨P1, P2, P3⟩ := intR_parts x
  have HP1 := Lib.hid P1
  have HP2 := Lib.hid P2
  have HP3 := Lib.hid P3
  clear P1 P2 P3
  obtain ⟨x0, x1⟩ := hx
  by_cases hs : x < 0
  · have HE := Lib.hid (E1 hs)
    have HS : Hid (true = rs (intR x)) := by show _ = _; rw [HP1.out, decide_eq_true hs]
    clear E1 E2
    go_enter Tryd.func35, Tryd.ntmps35
    go_wp2_with fail
    rw [HE.out]
    refine (newV _ W1 _).mono ?_
    rintro e w1 ⟨y, hy, rfl, hb1⟩
    have K1 := Blk.made hb1
    go_wp2_with fail
    refine (newV 1 ⟨by decide, by decide⟩ _).mono ?_
    rintro e w2 ⟨z, hz, rfl, hb2⟩
    have K2 := K1.below hb2 K1.lt
    have hy2 := hy.below hb2
    have HB : Hid (Below w.heap.size w w2) := bel_trans (bel_trans (bel_alloc (Below.refl _ _) _) hb1) hb2
    clear hb1 hb2 hy K1
    obtain ⟨c0, c1, c2, f0, f1, f2⟩ := K2.three
    obtain ⟨A, n, c, rfl⟩ := hy2.form
    obtain ⟨B, m, d, rfl⟩ := hz.form
    go_wp2_with fail
    have K3 := K2.put3 (.bool true) (.slice A n c) (.slice B m d)
    have y3 := hy2.put3 K2 (.bool true) (.slice A n c) (.slice B m d)
    have z3 := hz.put3 K2 (.bool true) (.slice A n c) (.slice B m d)
    have B3 := Lib.hid (bel_put3 HB.out (Nat.le_refl _) (.bool true) (.slice A n c) (.slice B m d))
    unfold wput at K3 y3 z3 B3
    clear c0 c1 c2 f0 f1 f2 K2 hy2 hz HB
    obtain ⟨c0, c1, c2, -, -, -⟩ := K3.three
    try simp only [Exit.inBlock, Exit.then]
    refine bodyPost_ret (v := .agg #[.bool true, .slice A n c, .slice B m d]) (by simp [results, Tryd.results35, go_sem, c0, c1, c2]) rfl ⟨_, _, _, ⟨by rw [HS.out], ?_, ?_⟩, rfl, B3.out⟩
    · rw [HP2.out]; exact y3
    · rw [HP3.out]; exact z3
  · have HE := Lib.hid (E2 hs)
    have HS : Hid (false = rs (intR x)) := by show _ = _; rw [HP1.out, decide_eq_false hs]
    have W2 : Word x := by rw [HE.out]; exact W1
    clear E1 E2
    go_enter Tryd.func35, Tryd.ntmps35
    go_wp2_with fail
    refine (newV x W2 _).mono ?_
    rintro e w1 ⟨y, hy, rfl, hb1⟩
    have K1 := Blk.made hb1
    go_wp2_with fail
    refine (newV 1 ⟨by decide, by decide⟩ _).mono ?_
    rintro e w2 ⟨z, hz, rfl, hb2⟩
    have K2 := K1.below hb2 K1.lt
    have hy2 := hy.below hb2
    have HB : Hid (Below w.heap.size w w2) := bel_trans (bel_trans (bel_alloc (Below.refl _ _) _) hb1) hb2
    clear hb1 hb2 hy K1
    obtain ⟨c0, c1, c2, f0, f1, f2⟩ := K2.three
    obtain ⟨A, n, c, rfl⟩ := hy2.form
    obtain ⟨B, m, d, rfl⟩ := hz.form
    go_wp2_with fail
    have K3 := K2.put3 (.bool false) (.slice A n c) (.slice B m d)
    have y3 := hy2.put3 K2 (.bool false) (.slice A n c) (.slice B m d)
    have z3 := hz.put3 K2 (.bool false) (.slice A n c) (.slice B m d)
    have B3 := Lib.hid (bel_put3 HB.out (Nat.le_refl _) (.bool false) (.slice A n c) (.slice B m d))
    unfold wput at K3 y3 z3 B3
    clear c0 c1 c2 f0 f1 f2 K2 hy2 hz HB
    obtain ⟨c0, c1, c2, -, -, -⟩ := K3.three
    try simp only [Exit.inBlock, Exit.then]
    refine bodyPost_ret (v := .agg #[.bool false, .slice A n c, .slice B m d]) (by simp [results, Tryd.results35, go_sem, c0, c1, c2]) rfl ⟨_, _, _, ⟨by rw [HS.out], ?_, ?_⟩, rfl, B3.out⟩
    · rw [HP2.out, ← HE.out]; exact y3
    · rw [HP3.out]; exact z3

theorem RC.fit {w : World} {x y z : Value} {L M : Nat} {r : Rat} (h : RC w x y z L r) (k : rp r < 2 ^ (32 * M)) (l : rq r < 2 ^ (32 * M)) : RC w x y z M r := ⟨h.1, h.2.1.fit k, h.2.2.fit l⟩
theorem one_lt_pow {M : Nat} (h : 1 ≤ M) : (1 : Int) < 2 ^ (32 * M) := by
  have := pow_mono 1 (32 * M) (by omega)
  omega
theorem intR_zero : intR 0 = 0 := by unfold intR; simp
theorem RC.zero {w : World} {x y z : Value} {L M : Nat} (h : RC w x y z L (intR 0)) (hM : 1 ≤ M) : RC w x y z M 0 := by
  rw [intR_zero] at h
  have := one_lt_pow hM
  exact h.fit (by rw [low_zero.2.1]; omega) (by rw [low_zero.2.2]; exact this)

set_option maxHeartbeats 1000000 in
theorem lowest_any {w : World} {y z : Value} {p q : Int} {L : Nat} (s : Bool) (hy : NatV w y p L) (hz : NatV w z q L) (hL : L ≤ 262144) (hL1 : 1 ≤ L) (hT : TabOk w) : Calls Tryd.prog 44 #[.bool s, y, z] w (RetR (rv s p q) L w) := by
  have C1 := fun o => isZero_any (hy.alloc o) (show L ≤ 1048576 by omega)
  have C2 := fun o => isZero_any (hz.alloc o) (show L ≤ 1048576 by omega)
  have p0 := hy.nonneg
  have q0 := hz.nonneg
  by_cases h1 : p = 0
  · have F : Hid (rv s p q = 0) := rv_zero (.inl h1)
    rw [F.out]
    have D1 : decide (p = 0) = true := decide_eq_true h1
    generalize decide (p = 0) = d1 at *
    subst D1
    clear h1 F hy hz C2 p0 q0
    go_enter Tryd.func44, Tryd.ntmps44
    go_wp2_with fail
    refine (C1 _).mono ?_
    rintro e w1 ⟨rfl, rfl⟩
    go_wp2_with fail
    refine (int_any 0 (by decide) _).mono ?_
    rintro e w2 ⟨x', y', z', hr, rfl, hb2⟩
    obtain ⟨s1, A1, n1, k1, B1, m1, l1, rfl, rfl, rfl⟩ := hr.form
    have K2 := Blk.made hb2
    have HB : Hid (Below w.heap.size w w2) := bel_trans (bel_alloc (Below.refl _ _) _) hb2
    obtain ⟨c0, c1, c2, f0, f1, f2⟩ := K2.three
    go_wp2_with fail
    have K3 := K2.put3 (.bool s1) (.slice A1 n1 k1) (.slice B1 m1 l1)
    have R3 := hr.put3 K2 (.bool s1) (.slice A1 n1 k1) (.slice B1 m1 l1)
    have B3 := Lib.hid (bel_put3 HB.out (Nat.le_refl _) (.bool s1) (.slice A1 n1 k1) (.slice B1 m1 l1))
    unfold wput at K3 R3 B3
    clear c0 c1 c2 f0 f1 f2 K2 HB hr
    obtain ⟨c0, c1, c2, -, -, -⟩ := K3.three
    try simp only [Exit.inBlock, Exit.then]
    refine bodyPost_ret (v := .agg #[.bool s1, .slice A1 n1 k1, .slice B1 m1 l1]) (by simp [results, Tryd.results44, go_sem, c0, c1, c2]) rfl ⟨_, _, _, R3.zero hL1, rfl, B3.out⟩
  · by_cases h2 : q = 0
    · have F : Hid (rv s p q = 0) := rv_zero (.inr h2)
      rw [F.out]
      have D1 : decide (p = 0) = false := decide_eq_false h1
      have D2 : decide (q = 0) = true := decide_eq_true h2
      generalize decide (p = 0) = d1 at *
      generalize decide (q = 0) = d2 at *
      subst D1 D2
      clear h1 h2 F hy hz p0 q0
      go_enter Tryd.func44, Tryd.ntmps44
      go_wp2_with fail
      refine (C1 _).mono ?_
      rintro e w1 ⟨rfl, rfl⟩
      go_wp2_with fail
      refine (C2 _).mono ?_
      rintro e w1 ⟨rfl, rfl⟩
      go_wp2_with fail
      refine (int_any 0 (by decide) _).mono ?_
      rintro e w2 ⟨x', y', z', hr, rfl, hb2⟩
      obtain ⟨s1, A1, n1, k1, B1, m1, l1, rfl, rfl, rfl⟩ := hr.form
      have K2 := Blk.made hb2
      have HB : Hid (Below w.heap.size w w2) := bel_trans (bel_alloc (Below.refl _ _) _) hb2
      obtain ⟨c0, c1, c2, f0, f1, f2⟩ := K2.three
      go_wp2_with fail
      have K3 := K2.put3 (.bool s1) (.slice A1 n1 k1) (.slice B1 m1 l1)
      have R3 := hr.put3 K2 (.bool s1) (.slice A1 n1 k1) (.slice B1 m1 l1)
      have B3 := Lib.hid (bel_put3 HB.out (Nat.le_refl _) (.bool s1) (.slice A1 n1 k1) (.slice B1 m1 l1))
      unfold wput at K3 R3 B3
      clear c0 c1 c2 f0 f1 f2 K2 HB hr
      obtain ⟨c0, c1, c2, -, -, -⟩ := K3.three
      try simp only [Exit.inBlock, Exit.then]
      refine bodyPost_ret (v := .agg #[.bool s1, .slice A1 n1 k1, .slice B1 m1 l1]) (by simp [results, Tryd.results44, go_sem, c0, c1, c2]) rfl ⟨_, _, _, R3.zero hL1, rfl, B3.out⟩
    · obtain ⟨F1, F2, F3⟩ := low_of (s := s) (p := p) (q := q) (by omega) (by omega)
      have HG : gcdI p q ≠ 0 := by have := gcd_pos (p := p) (q := q) (by omega); omega
      have H1 := Lib.hid F1
      have H2 := Lib.hid F2
      have H3 := Lib.hid F3
      have D1 : decide (p = 0) = false := decide_eq_false h1
      have D2 : decide (q = 0) = false := decide_eq_false h2
      generalize decide (p = 0) = d1 at *
      generalize decide (q = 0) = d2 at *
      subst D1 D2
      clear h1 h2 F1 F2 F3 p0 q0
      go_enter Tryd.func44, Tryd.ntmps44
      go_wp2_with fail
      refine (C1 _).mono ?_
      rintro e w1 ⟨rfl, rfl⟩
      go_wp2_with fail
      refine (C2 _).mono ?_
      rintro e w1 ⟨rfl, rfl⟩
      clear C1 C2
      go_wp2_with fail
      refine (ngcdV (hy.alloc _) (hz.alloc _) hL (hT.below (bel_alloc (Below.refl _ _) _))).mono ?_
      rintro e w2 ⟨g, hg, rfl, hb2⟩
      have K2 := Blk.made hb2
      have HB : Hid (Below w.heap.size w w2) := bel_trans (bel_alloc (Below.refl _ _) _) hb2
      have hy2 := hy.below HB.out
      have hz2 := hz.below HB.out
      clear hy hz hb2
      go_wp2_with fail
      refine (ndivV hy2 hg.v (by omega) (by omega) HG).mono ?_
      rintro e w3 ⟨u, u', hu, -, rfl, hb3⟩
      have K3 := K2.below hb3 K2.lt
      have HB3 : Hid (Below w.heap.size w w3) := bel_trans HB.out hb3
      have hz3 := hz2.below hb3
      have hg3 := hg.below hb3
      clear K2 HB hb3 hy2 hz2 hg
      go_wp2_with fail
      refine (ndivV hz3 hg3.v (by omega) (by omega) HG).mono ?_
      rintro e w4 ⟨v, v', hv, -, rfl, hb4⟩
      have K4 := K3.below hb4 K3.lt
      have HB4 : Hid (Below w.heap.size w w4) := bel_trans HB3.out hb4
      have hu4 := hu.below hb4
      clear K3 HB3 hb4 hz3 hg3 hu
      rw [← H2.out] at hu4
      rw [← H3.out] at hv
      obtain ⟨A, n, c, rfl⟩ := hu4.form
      obtain ⟨B, m, d, rfl⟩ := hv.form
      obtain ⟨c0, c1, c2, f0, f1, f2⟩ := K4.three
      clear H2 H3
      go_wp2_with fail
      have K5 := K4.put3 (.bool s) (.slice A n c) (.slice B m d)
      have y5 := hu4.put3 K4 (.bool s) (.slice A n c) (.slice B m d)
      have z5 := hv.put3 K4 (.bool s) (.slice A n c) (.slice B m d)
      have B5 := Lib.hid (bel_put3 HB4.out (Nat.le_refl _) (.bool s) (.slice A n c) (.slice B m d))
      unfold wput at K5 y5 z5 B5
      clear c0 c1 c2 f0 f1 f2 K4 hu4 hv HB4
      obtain ⟨c0, c1, c2, -, -, -⟩ := K5.three
      try simp only [Exit.inBlock, Exit.then]
      refine bodyPost_ret (v := .agg #[.bool s, .slice A n c, .slice B m d]) (by simp [results, Tryd.results44, go_sem, c0, c1, c2]) rfl ⟨_, _, _, ⟨by rw [H1.out], y5, z5⟩, rfl, B5.out⟩

theorem size_alloc (w : World) (o : Obj) : (w.alloc o).heap.size = w.heap.size + 1 := by simp
theorem bel_2 (w : World) (o1 o2 : Obj) : Below w.heap.size w ((w.alloc o1).alloc o2) := bel_alloc (bel_alloc (Below.refl _ _) _) _
theorem bel_3 (w : World) (o1 o2 o3 : Obj) : Below w.heap.size w (((w.alloc o1).alloc o2).alloc o3) := bel_alloc (bel_2 w o1 o2) _
section
variable {w w' : World} {o1 o2 o3 : Obj} {t : TypeId} {cs : Array Value}
theorem Blk.in21 (hb : Below ((w.alloc (.cells cs t)).alloc o2).heap.size ((w.alloc (.cells cs t)).alloc o2) w') : Blk w' w.heap.size t cs :=
  ((Blk.new w t cs).alloc o2).below hb ((Blk.new w t cs).alloc o2).lt
theorem Blk.in22 (hb : Below ((w.alloc o1).alloc (.cells cs t)).heap.size ((w.alloc o1).alloc (.cells cs t)) w') : Blk w' (w.heap.size + 1) t cs := by
  have h := Blk.made hb
  rw [size_alloc] at h
  exact h
theorem Blk.in31 (hb : Below (((w.alloc (.cells cs t)).alloc o2).alloc o3).heap.size (((w.alloc (.cells cs t)).alloc o2).alloc o3) w') : Blk w' w.heap.size t cs :=
  (((Blk.new w t cs).alloc o2).alloc o3).below hb (((Blk.new w t cs).alloc o2).alloc o3).lt
theorem Blk.in32 (hb : Below (((w.alloc o1).alloc (.cells cs t)).alloc o3).heap.size (((w.alloc o1).alloc (.cells cs t)).alloc o3) w') : Blk w' (w.heap.size + 1) t cs := by
  have h := Blk.in21 hb
  rw [size_alloc] at h
  exact h
theorem Blk.in33 (hb : Below (((w.alloc o1).alloc o2).alloc (.cells cs t)).heap.size (((w.alloc o1).alloc o2).alloc (.cells cs t)) w') : Blk w' (w.heap.size + 1 + 1) t cs := by
  have h := Blk.made hb
  rw [size_alloc, size_alloc] at h
  exact h
end

set_option maxHeartbeats 1000000 in
theorem reduced_any {w : World} {x y z : Value} {L : Nat} {r : Rat} (h : RV w x y z L r) (hL : L ≤ 262144) (hL1 : 1 ≤ L) (hT : TabOk w) : Calls Tryd.prog 41 #[.agg #[x, y, z]] w (RetR r L w) := by
  obtain ⟨s, p, q, rfl, hy, hz, rfl⟩ := h
  go_enter Tryd.func41, Tryd.ntmps41
  go_wp2_with fail
  refine (lowest_any s (hy.below (bel_2 _ _ _)) (hz.below (bel_2 _ _ _)) hL hL1 (hT.below (bel_2 _ _ _))).mono ?_
  rintro e w2 ⟨x', y', z', hr, rfl, hb2⟩
  obtain ⟨s1, A1, n1, k1, B1, m1, l1, rfl, rfl, rfl⟩ := hr.form
  have K2 := Blk.in22 hb2
  have HB : Hid (Below w.heap.size w w2) := bel_trans (bel_2 _ _ _) hb2
  clear hb2 hy hz hT
  obtain ⟨c0, c1, c2, f0, f1, f2⟩ := K2.three
  go_wp2_with fail
  have K3 := K2.put3 (.bool s1) (.slice A1 n1 k1) (.slice B1 m1 l1)
  have R3 := hr.put3 K2 (.bool s1) (.slice A1 n1 k1) (.slice B1 m1 l1)
  have B3 := Lib.hid (bel_put3 HB.out (Nat.le_succ _) (.bool s1) (.slice A1 n1 k1) (.slice B1 m1 l1))
  unfold wput at K3 R3 B3
  clear c0 c1 c2 f0 f1 f2 K2 HB hr
  obtain ⟨c0, c1, c2, -, -, -⟩ := K3.three
  try simp only [Exit.inBlock, Exit.then]
  refine bodyPost_ret (v := .agg #[.bool s1, .slice A1 n1 k1, .slice B1 m1 l1]) (by simp [results, Tryd.results41, go_sem, c0, c1, c2]) rfl ⟨_, _, _, R3, rfl, B3.out⟩

set_option maxHeartbeats 1000000 in
theorem neg_any {w : World} {x y z : Value} {L : Nat} {r : Rat} (h : RV w x y z L r) (hL : L ≤ 262144) (hL1 : 1 ≤ L) (hT : TabOk w) : Calls Tryd.prog 22 #[.agg #[x, y, z]] w (RetR (-r) L w) := by
  obtain ⟨s, p, q, rfl, hy, hz, rfl⟩ := h
  rw [← rv_not]
  go_enter Tryd.func22, Tryd.ntmps22
  go_wp2_with fail
  refine (lowest_any (!s) (hy.below (bel_2 _ _ _)) (hz.below (bel_2 _ _ _)) hL hL1 (hT.below (bel_2 _ _ _))).mono ?_
  rintro e w2 ⟨x', y', z', hr, rfl, hb2⟩
  obtain ⟨s1, A1, n1, k1, B1, m1, l1, rfl, rfl, rfl⟩ := hr.form
  have K2 := Blk.in22 hb2
  have HB : Hid (Below w.heap.size w w2) := bel_trans (bel_2 _ _ _) hb2
  clear hb2 hy hz hT
  obtain ⟨c0, c1, c2, f0, f1, f2⟩ := K2.three
  go_wp2_with fail
  have K3 := K2.put3 (.bool s1) (.slice A1 n1 k1) (.slice B1 m1 l1)
  have R3 := hr.put3 K2 (.bool s1) (.slice A1 n1 k1) (.slice B1 m1 l1)
  have B3 := Lib.hid (bel_put3 HB.out (Nat.le_succ _) (.bool s1) (.slice A1 n1 k1) (.slice B1 m1 l1))
  unfold wput at K3 R3 B3
  clear c0 c1 c2 f0 f1 f2 K2 HB hr
  obtain ⟨c0, c1, c2, -, -, -⟩ := K3.three
  try simp only [Exit.inBlock, Exit.then]
  refine bodyPost_ret (v := .agg #[.bool s1, .slice A1 n1 k1, .slice B1 m1 l1]) (by simp [results, Tryd.results22, go_sem, c0, c1, c2]) rfl ⟨_, _, _, R3, rfl, B3.out⟩

/-- Without its sign. -/
def absR (r : Rat) : Rat := if r < 0 then -r else r
theorem rv_abs {s : Bool} {p q : Int} (hp : 0 ≤ p) (hq : 0 ≤ q) : rv false p q = absR (rv s p q) := by
  unfold absR
  have h := sgn_rv (s := s) hp hq
  by_cases h0 : p = 0 ∨ q = 0
  · rw [rv_zero h0, rv_zero h0]; rfl
  · rw [if_neg h0] at h
    cases s
    · rw [if_neg]
      intro h2
      rw [sgn_lt.2 h2] at h
      simp at h
    · rw [if_pos (sgn_lt.1 (by rw [h]; rfl)), ← rv_not]
      rfl
set_option maxHeartbeats 1000000 in
theorem abs_any {w : World} {x y z : Value} {L : Nat} {r : Rat} (h : RV w x y z L r) (hL : L ≤ 262144) (hL1 : 1 ≤ L) (hT : TabOk w) : Calls Tryd.prog 24 #[.agg #[x, y, z]] w (RetR (absR r) L w) := by
  obtain ⟨s, p, q, rfl, hy, hz, rfl⟩ := h
  rw [← rv_abs hy.nonneg hz.nonneg]
  go_enter Tryd.func24, Tryd.ntmps24
  go_wp2_with fail
  refine (lowest_any false (hy.below (bel_2 _ _ _)) (hz.below (bel_2 _ _ _)) hL hL1 (hT.below (bel_2 _ _ _))).mono ?_
  rintro e w2 ⟨x', y', z', hr, rfl, hb2⟩
  obtain ⟨s1, A1, n1, k1, B1, m1, l1, rfl, rfl, rfl⟩ := hr.form
  have K2 := Blk.in22 hb2
  have HB : Hid (Below w.heap.size w w2) := bel_trans (bel_2 _ _ _) hb2
  clear hb2 hy hz hT
  obtain ⟨c0, c1, c2, f0, f1, f2⟩ := K2.three
  go_wp2_with fail
  have K3 := K2.put3 (.bool s1) (.slice A1 n1 k1) (.slice B1 m1 l1)
  have R3 := hr.put3 K2 (.bool s1) (.slice A1 n1 k1) (.slice B1 m1 l1)
  have B3 := Lib.hid (bel_put3 HB.out (Nat.le_succ _) (.bool s1) (.slice A1 n1 k1) (.slice B1 m1 l1))
  unfold wput at K3 R3 B3
  clear c0 c1 c2 f0 f1 f2 K2 HB hr
  obtain ⟨c0, c1, c2, -, -, -⟩ := K3.three
  try simp only [Exit.inBlock, Exit.then]
  refine bodyPost_ret (v := .agg #[.bool s1, .slice A1 n1 k1, .slice B1 m1 l1]) (by simp [results, Tryd.results24, go_sem, c0, c1, c2]) rfl ⟨_, _, _, R3, rfl, B3.out⟩
/-- No fraction, and an error's number. -/
def RetErr (n : Int) (w : World) (e : Ending) (w' : World) : Prop := e = .returned (.tuple #[.agg #[.bool false, .slice none 0 0, .slice none 0 0], .int .i64 n]) ∧ Below w.heap.size w w'
set_option maxHeartbeats 1000000 in
theorem qnew_zero {w : World} {y z : Value} {p q : Int} {L : Nat} (s : Bool) (_hy : NatV w y p L) (hz : NatV w z q L) (hL : L ≤ 262144) (h0 : q = 0) : Calls Tryd.prog 33 #[.bool s, y, z] w (RetErr 30 w) := by
  have C2 := fun o => isZero_any (hz.alloc o) (show L ≤ 1048576 by omega)
  have D2 : decide (q = 0) = true := decide_eq_true h0
  generalize decide (q = 0) = d2 at *
  subst D2
  clear h0 _hy hz
  go_enter Tryd.func33, Tryd.ntmps33
  go_wp2_with fail
  refine (C2 _).mono ?_
  rintro e w1 ⟨rfl, rfl⟩
  go_wp2_with fail
  try simp only [Exit.inBlock, Exit.then]
  refine bodyPost_ret (by simp [results, Tryd.results33, go_sem]) rfl ⟨rfl, ?_⟩
  exact bel_alloc (Below.refl _ _) _
set_option maxHeartbeats 1000000 in
theorem qnew_any {w : World} {y z : Value} {p q : Int} {L : Nat} (s : Bool) (hy : NatV w y p L) (hz : NatV w z q L) (hL : L ≤ 262144) (hL1 : 1 ≤ L) (hT : TabOk w) (h0 : q ≠ 0) : Calls Tryd.prog 33 #[.bool s, y, z] w (RetRE (rv s p q) L 0 w) := by
  have C2 := fun o => isZero_any (hz.alloc o) (show L ≤ 1048576 by omega)
  have D2 : decide (q = 0) = false := decide_eq_false h0
  generalize decide (q = 0) = d2 at *
  subst D2
  clear h0
  go_enter Tryd.func33, Tryd.ntmps33
  go_wp2_with fail
  refine (C2 _).mono ?_
  rintro e w1 ⟨rfl, rfl⟩
  clear C2
  go_wp2_with fail
  refine (lowest_any s (hy.alloc _) (hz.alloc _) hL hL1 (hT.below (bel_alloc (Below.refl _ _) _))).mono ?_
  rintro e w2 ⟨x', y', z', hr, rfl, hb2⟩
  obtain ⟨s1, A1, n1, k1, B1, m1, l1, rfl, rfl, rfl⟩ := hr.form
  have K2 := Blk.made hb2
  have HB : Hid (Below w.heap.size w w2) := bel_trans (bel_alloc (Below.refl _ _) _) hb2
  clear hb2 hy hz hT
  obtain ⟨c0, c1, c2, f0, f1, f2⟩ := K2.three
  go_wp2_with fail
  have K3 := K2.put3 (.bool s1) (.slice A1 n1 k1) (.slice B1 m1 l1)
  have R3 := hr.put3 K2 (.bool s1) (.slice A1 n1 k1) (.slice B1 m1 l1)
  have B3 := Lib.hid (bel_put3 HB.out (Nat.le_refl _) (.bool s1) (.slice A1 n1 k1) (.slice B1 m1 l1))
  unfold wput at K3 R3 B3
  clear c0 c1 c2 f0 f1 f2 K2 HB hr
  obtain ⟨c0, c1, c2, -, -, -⟩ := K3.three
  try simp only [Exit.inBlock, Exit.then]
  refine bodyPost_ret (v := .tuple #[.agg #[.bool s1, .slice A1 n1 k1, .slice B1 m1 l1], .int .i64 0]) (by simp [results, Tryd.results33, go_sem, c0, c1, c2]) rfl ⟨_, _, _, R3, rfl, B3.out⟩
end Go.Proofs.YtaollppieonmbaaDoor
