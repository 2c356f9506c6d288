/-
  The walk of RatioMakes: for all that is handed in the law answers true, and nothing that was there has changed. Condition: the table of math/bits stands in its variable.
-/
import Derived.Test.YtaollppieonmbaaDoorQin
namespace Go.Proofs.YtaollppieonmbaaDoor
open Go.RowKit
set_option maxRecDepth 100000

theorem ofV {W : World} {a : Int} (ha : Word a) : Calls Tryd.prog 34 #[.slice (some ⟨W.heap.size, 0, none⟩) 1 1] (W.alloc (.cells #[.int .u64 a] 49)) (RetV (fun w v => RowV w v a 64) (W.alloc (.cells #[.int .u64 a] 49))) := by
  refine (rof_any _ 1 1 [a] _ rfl ?_ ?_ (by decide)).mono fun e w' r => ?_
  · refine .inr ⟨_, 0, rfl, by simp, fun i y hi => ?_⟩
    rcases i with _ | i
    · simp at hi; subst hi; simp [go_sem]
    · simp at hi
  · intro y hy
    simp at hy
    subst hy
    exact ha
  · obtain ⟨xs, A', c', ⟨h1, h2⟩, e1, hc', _, hr', hb'⟩ := r
    refine ⟨_, ⟨A', xs.length, c', xs, rfl, rfl, hc', hr', ?_, by rw [h2]; simp⟩, e1, hb'⟩
    rw [h1]
    simp [wv]
theorem rshlV {w : World} {x : Value} {p : Int} {L : Nat} (h : RowV w x p L) (hL : L ≤ 1048576) (N : Int) (h0 : 0 ≤ N) (h1 : N ≤ 1048576) (K : Nat) (hK : N.toNat + L ≤ K) : Calls Tryd.prog 37 #[x, .int .i64 N] w (RetV (fun w v => RowV w v (2 ^ N.toNat * p) K) w) := by
  obtain ⟨A, n, c, us, rfl, hn, hc, hr, hv, hl⟩ := h
  refine (rshl_any A n c us N w hn hr (by omega) h0 (by omega)).mono fun e w' r => ?_
  obtain ⟨xs, A', c', hs, e1, hc', _, hr', hb'⟩ := r
  obtain ⟨e2, e3⟩ := hs.val
  exact ⟨_, ⟨A', xs.length, c', xs, rfl, rfl, hc', hr', by rw [e2, hv], by omega⟩, e1, hb'⟩
theorem int_rv (x : Int) : rv (decide (x < 0)) (x.natAbs : Int) 1 = intR x := by
  unfold rv intR
  have : sv (decide (x < 0)) (x.natAbs : Int) = x := by
    by_cases h : x < 0
    · rw [decide_eq_true h]; simp [sv]; omega
    · rw [decide_eq_false h]; simp [sv]; omega
  rw [this]
  rfl
theorem sub_word {x : Int} (hx : -9223372036854775808 ≤ x ∧ x ≤ 9223372036854775807) (h : x < 0) : IntKind.u64.wrap (0 - IntKind.u64.wrap x) = (x.natAbs : Int) ∧ IntKind.u64.wrap (-IntKind.u64.wrap x) = (x.natAbs : Int) := by
  constructor <;> (simp [IntKind.wrap, IntKind.bits, IntKind.signed]; omega)

set_option maxHeartbeats 40000000 in
theorem rmakes_walk (s : Bool) (A : Option Addr) (n c : Nat) (B : Option Addr) (k d : Nat) (x m e : Int) (w : World) (ha : NatIn w A n c) (hb : NatIn w B k d) (hx : -9223372036854775808 ≤ x ∧ x ≤ 9223372036854775807) (hm : Word m) (he : -9223372036854775808 ≤ e ∧ e ≤ 9223372036854775807) (hT : TabOk w) :
    Calls Tryd.prog 6 #[.bool s, .slice A n c, .slice B k d, .int .i64 x, .int .u64 m, .int .i64 e] w fun e w' => e = .returned (.bool true) ∧ Below w.heap.size w w' := by
  obtain ⟨x0, x1⟩ := hx
  obtain ⟨ee0, ee1⟩ := he
  go_enter Tryd.func6, Tryd.ntmps6
  go_wp2_with fail
  refine (works3 w hT).mono ?_
  rintro e W1 ⟨rfl, hb1⟩
  have HB2 := Lib.hid hb1
  clear hb1
  by_cases h1 : n ≤ 4
  case neg =>
    have h1' : (4 : Int) < (n : Int) := by omega
    go_wp2_with fail
    go_ret
    exact ⟨rfl, HB2.out⟩
  by_cases h2 : k ≤ 4
  case neg =>
    have h1' : decide ((4 : Int) < (n : Int)) = false := decide_eq_false (by omega)
    have h2' : (4 : Int) < (k : Int) := by omega
    go_wp2_with fail
    go_ret
    exact ⟨rfl, HB2.out⟩
  have h1' : decide ((4 : Int) < (n : Int)) = false := decide_eq_false (by omega)
  have h2' : decide ((4 : Int) < (k : Int)) = false := decide_eq_false (by omega)
  obtain ⟨p, fp⟩ := ha.v h1
  obtain ⟨q, fq⟩ := hb.v h2
  have ep := fp.below HB2.out
  have eq := fq.below HB2.out
  clear fp fq ha hb h1 h2
  go_wp2_with fail
  refine (rbitsV ep (by decide)).mono ?_
  rintro e w1 ⟨vrn, r1, rfl, hb1⟩
  have epx := ep.below hb1
  clear ep
  have eqx := eq.below hb1
  clear eq
  have HB102 := Lib.hid (bel_trans HB2.out hb1)
  clear hb1 HB2
  go_wp2_with fail
  refine (rbitsV eqx (by decide)).mono ?_
  rintro e w3 ⟨vrd, r3, rfl, hb3⟩
  have epxx := epx.below hb3
  clear epx
  have eqxx := eqx.below hb3
  clear eqx
  have r1x := r1.below hb3
  clear r1
  have HB104 := Lib.hid (bel_trans HB102.out hb3)
  clear hb3 HB102
  obtain ⟨An, nn, cn, rfl⟩ := r1x.form
  obtain ⟨Ad, nd, cd, rfl, D0, -⟩ := r3.len0
  by_cases hq : q = 0
  · obtain rfl : nd = 0 := by rw [decide_eq_true hq] at D0; simpa using D0
    clear D0
    go_wp2_with fail
    refine (qnew_zero s epxx eqxx (by decide) hq).mono ?_
    rintro e w201 ⟨rfl, hb201⟩
    have epxxx := epxx.below hb201
    clear epxx
    have eqxxx := eqxx.below hb201
    clear eqxx
    have r1xx := r1x.below hb201
    clear r1x
    have r3x := r3.below hb201
    clear r3
    have HB302 := Lib.hid (bel_trans HB104.out hb201)
    clear hb201 HB104
    have b201 := bel_alloc (Below.refl w201.heap.size w201) (.cells #[.bool false, .slice none 0 0, .slice none 0 0] 25)
    have Ka := Blk.new w201 25 #[.bool false, .slice none 0 0, .slice none 0 0]
    obtain ⟨v201, hv201⟩ : ∃ v, v = w201.alloc (.cells #[.bool false, .slice none 0 0, .slice none 0 0] 25) := ⟨_, rfl⟩
    obtain ⟨ga, hga⟩ : ∃ g, g = w201.heap.size := ⟨_, rfl⟩
    have Ga := Lib.hid hga
    have V201 := Lib.hid hv201
    rw [← hv201] at b201 Ka
    rw [← hga] at Ka
    clear hv201 hga
    have epxxxx := epxxx.below b201
    clear epxxx
    have eqxxxx := eqxxx.below b201
    clear eqxxx
    have r1xxx := r1xx.below b201
    clear r1xx
    have r3xx := r3x.below b201
    clear r3x
    have HB303 := Lib.hid (bel_trans HB302.out b201)
    clear b201 HB302
    obtain ⟨q0a, q1a, q2a, -, -, -⟩ := Ka.three
    rw [V201.out] at q0a q1a q2a
    go_upto_region 11 with fail
    rw [← Ga.out, ← V201.out]
    clear Ga V201
    clear q0a q1a q2a
    obtain ⟨q0a, q1a, q2a, -, -, -⟩ := Ka.three
    have HK204 : Hid (∀ w', Below v201.heap.size v201 w' → w'.cell? ⟨ga, 0, none⟩ = some (.bool false) ∧ w'.cell? ⟨ga, 1, none⟩ = some (.slice none 0 0) ∧ w'.cell? ⟨ga, 2, none⟩ = some (.slice none 0 0)) := fun w' hb => kps3 hb q0a q1a q2a
    clear q0a q1a q2a
    refine region_plan (S := fun w' => w'.cell? ⟨ga, 0, none⟩ = some (.bool false) ∧ w'.cell? ⟨ga, 1, none⟩ = some (.slice none 0 0) ∧ w'.cell? ⟨ga, 2, none⟩ = some (.slice none 0 0)) _ [(0, true), (1, true), (2, true), (3, true), (4, true), (5, true), (6, true), (7, false), (8, false), (9, true), (10, true)] (by kernel_rfl) (by kernel_rfl) rfl (by kernel_rfl) (by kernel_rfl) (fun _ _ d _ _ h => by cases d <;> exact h) (HK204.out _ (bel_drew (Below.refl _ _))) ?_
    refine Walk.take (v := ?_) rfl (by rfl) ?_ ?_
    rotate_left
    · (intro w' hSw; (try dsimp only at hSw); go_simp <;> with_reducible rfl)
    try simp only [Act.put, List.setIfInBounds_toArray, List.set_cons_zero, List.set_cons_succ]
    refine Walk.take (v := ?_) rfl (by rfl) ?_ ?_
    rotate_left
    · (intro w' hSw; (try dsimp only at hSw); go_simp <;> with_reducible rfl)
    try simp only [Act.put, List.setIfInBounds_toArray, List.set_cons_zero, List.set_cons_succ]
    refine Walk.take (v := ?_) rfl (by rfl) ?_ ?_
    rotate_left
    · (intro w' hSw; (try dsimp only at hSw); go_simp <;> with_reducible rfl)
    try simp only [Act.put, List.setIfInBounds_toArray, List.set_cons_zero, List.set_cons_succ]
    refine Walk.skip rfl (by rfl) ?_
    try simp only [Act.put, List.setIfInBounds_toArray, List.set_cons_zero, List.set_cons_succ]
    refine Walk.skip rfl (by rfl) ?_
    try simp only [Act.put, List.setIfInBounds_toArray, List.set_cons_zero, List.set_cons_succ]
    refine Walk.skip rfl (by rfl) ?_
    try simp only [Act.put, List.setIfInBounds_toArray, List.set_cons_zero, List.set_cons_succ]
    refine Walk.skip rfl (by rfl) ?_
    try simp only [Act.put, List.setIfInBounds_toArray, List.set_cons_zero, List.set_cons_succ]
    refine Walk.pass rfl (by rfl) (HK204.out _ (bel_drew (Below.refl _ _))) ?_
    try simp only [Act.put, List.setIfInBounds_toArray, List.set_cons_zero, List.set_cons_succ]
    refine Walk.pass rfl (by rfl) (HK204.out _ (bel_drew (Below.refl _ _))) ?_
    try simp only [Act.put, List.setIfInBounds_toArray, List.set_cons_zero, List.set_cons_succ]
    refine Walk.take (v := ?_) rfl (by rfl) ?_ ?_
    rotate_left
    · (intro w' hSw; (try dsimp only at hSw); go_simp <;> with_reducible rfl)
    try simp only [Act.put, List.setIfInBounds_toArray, List.set_cons_zero, List.set_cons_succ]
    refine Walk.take (v := ?_) rfl (by rfl) ?_ ?_
    rotate_left
    · (intro w' hSw; (try dsimp only at hSw); go_simp <;> with_reducible rfl)
    try simp only [Act.put, List.setIfInBounds_toArray, List.set_cons_zero, List.set_cons_succ]
    refine Walk.done ?_
    clear HK204
    have epxxxxx := epxxxx.below (bel_drew (Below.refl v201.heap.size v201))
    clear epxxxx
    have eqxxxxx := eqxxxx.below (bel_drew (Below.refl v201.heap.size v201))
    clear eqxxxx
    have r1xxxx := r1xxx.below (bel_drew (Below.refl v201.heap.size v201))
    clear r1xxx
    have r3xxx := r3xx.below (bel_drew (Below.refl v201.heap.size v201))
    clear r3xx
    have Kax := Ka.below (bel_drew (Below.refl v201.heap.size v201)) Ka.lt
    clear Ka
    have HB306 := Lib.hid (bel_trans HB303.out (bel_drew (Below.refl v201.heap.size v201)))
    clear HB303
    clear epxxxxx
    clear eqxxxxx
    clear r1xxxx
    clear r3xxx
    clear Kax
    by_cases hs : x < 0
    · obtain ⟨sw1, sw2⟩ := sub_word ⟨x0, x1⟩ hs
      have hsd : decide (x < 0) = true := decide_eq_true hs
      go_wp2_with fail
      have bb207 := bel_alloc (Below.refl v201.drew.heap.size v201.drew) (.cells #[.int .u64 1] 49)
      refine (ofV (W := v201.drew) (a := 1) ⟨by decide, by decide⟩).mono ?_
      rintro e w207 ⟨vu, r207, rfl, hb207⟩
      have hc207 := bel_trans bb207 hb207
      clear bb207 hb207
      have HB308 := Lib.hid (bel_trans HB306.out hc207)
      clear hc207 HB306
      go_wp2_with fail
      refine (int_any x ⟨x0, x1⟩ _).mono ?_
      rintro e w209 ⟨x209, y209, z209, r209, rfl, hb209⟩
      have r207x := r207.below hb209
      clear r207
      have HB310 := Lib.hid (bel_trans HB308.out hb209)
      clear hb209 HB308
      go_wp2_with fail
      clear sw1 sw2
      have bb211 := bel_alloc (Below.refl w209.heap.size w209) (.cells #[.int .u64 (x.natAbs : Int)] 49)
      refine (ofV (W := w209) (a := (x.natAbs : Int)) ⟨by omega, by omega⟩).mono ?_
      rintro e w211 ⟨vw, r211, rfl, hb211⟩
      have hc211 := bel_trans bb211 hb211
      clear bb211 hb211
      have r207xx := r207x.below hc211
      clear r207x
      have r209x := r209.below hc211
      clear r209
      have HB312 := Lib.hid (bel_trans HB310.out hc211)
      clear hc211 HB310
      go_wp2_with fail
      refine (low_any true r211 r207xx (by decide) (by decide)).mono ?_
      rw [show rv true (x.natAbs : Int) 1 = intR x from by have h := int_rv x; rw [hsd] at h; exact h]
      rintro e w213 ⟨x213, y213, z213, r213, rfl, hb213⟩
      have r207xxx := r207xx.below hb213
      clear r207xx
      have r209xx := r209x.below hb213
      clear r209x
      have r211x := r211.below hb213
      clear r211
      have HB314 := Lib.hid (bel_trans HB312.out hb213)
      clear hb213 HB312
      go_wp2_with fail
      refine (isq_any r209xx r213 (by decide) (by decide)).mono ?_
      rintro e w215 ⟨rfl, hb215⟩
      have r207xxxx := r207xxx.below hb215
      clear r207xxx
      have r209xxx := r209xx.below hb215
      clear r209xx
      have r211xx := r211x.below hb215
      clear r211x
      have r213x := r213.below hb215
      clear r213
      have HB316 := Lib.hid (bel_trans HB314.out hb215)
      clear hb215 HB314
      clear r209xxx
      clear r211xx
      clear r213x
      clear hsd
      by_cases he : e < -8192 ∨ 8192 < e
      · go_wp2_with fail
        refine (qdyad_long s m e hm he _).mono ?_
        rintro e w237 ⟨rfl, hb237⟩
        have r207xxxxx := r207xxxx.below hb237
        clear r207xxxx
        have HB338 := Lib.hid (bel_trans HB316.out hb237)
        clear hb237 HB316
        by_cases he1 : e < -8192
        · go_wp2_with fail
          go_ret
          exact ⟨rfl, bel_alloc HB338.out _⟩
        · have he2 : 8192 < e := by omega
          have he1' : decide (e < -8192) = false := decide_eq_false he1
          go_wp2_with fail
          go_ret
          exact ⟨rfl, bel_alloc HB338.out _⟩
      · have g1 : decide (e < -8192) = false := decide_eq_false (by omega)
        have g2 : decide (8192 < e) = false := decide_eq_false (by omega)
        go_wp2_with fail
        refine (qdyad_any s m e hm ⟨by omega, by omega⟩ _ (hT.below HB316.out)).mono ?_
        rintro e w277 ⟨x277, y277, z277, r277, rfl, hb277⟩
        have r207xxxxx := r207xxxx.below hb277
        clear r207xxxx
        have HB378 := Lib.hid (bel_trans HB316.out hb277)
        clear hb277 HB316
        obtain ⟨sb, Ab, nb, cb, Bb, mb, db, rfl, rfl, rfl⟩ := r277.form
        have b277 := bel_alloc (Below.refl w277.heap.size w277) (.cells #[.bool sb, .slice Ab nb cb, .slice Bb mb db] 25)
        have Kb := Blk.new w277 25 #[.bool sb, .slice Ab nb cb, .slice Bb mb db]
        obtain ⟨v277, hv277⟩ : ∃ v, v = w277.alloc (.cells #[.bool sb, .slice Ab nb cb, .slice Bb mb db] 25) := ⟨_, rfl⟩
        obtain ⟨gb, hgb⟩ : ∃ g, g = w277.heap.size := ⟨_, rfl⟩
        have Gb := Lib.hid hgb
        have V277 := Lib.hid hv277
        rw [← hv277] at b277 Kb
        rw [← hgb] at Kb
        clear hv277 hgb
        have r207xxxxxx := r207xxxxx.below b277
        clear r207xxxxx
        have r277x := r277.below b277
        clear r277
        have HB379 := Lib.hid (bel_trans HB378.out b277)
        clear b277 HB378
        by_cases hf : e < -200 ∨ 200 < e
        · by_cases he1 : e < -200
          · go_wp2_with fail
            go_ret
            exact ⟨rfl, by rw [← V277.out]; exact HB379.out⟩
          · have he2 : 200 < e := by omega
            have he1' : decide (e < -200) = false := decide_eq_false he1
            go_wp2_with fail
            go_ret
            exact ⟨rfl, by rw [← V277.out]; exact HB379.out⟩
        · have g3 : decide (e < -200) = false := decide_eq_false (by omega)
          have g4 : decide (200 < e) = false := decide_eq_false (by omega)
          have HE : Hid (-200 ≤ e ∧ e ≤ 200) := by show _ ∧ _; omega
          have WN : IntKind.i64.wrap (-e) = -e := wrap_in (by omega) (by omega)
          clear hf he ee0 ee1
          go_wp2_with fail
          have SZ : v277.heap.size = gb + 1 := by rw [V277.out, size_alloc, ← Gb.out]
          rw [← Gb.out, ← V277.out, ← SZ]
          clear Gb V277 SZ
          have bb340 := bel_alloc (Below.refl v277.heap.size v277) (.cells #[.int .u64 m] 49)
          refine (ofV (W := v277) (a := m) hm).mono ?_
          rintro e w340 ⟨vm, r340, rfl, hb340⟩
          have hc340 := bel_trans bb340 hb340
          clear bb340 hb340
          have r207xxxxxxx := r207xxxxxx.below hc340
          clear r207xxxxxx
          have r277xx := r277x.below hc340
          clear r277x
          have Kbx := Kb.below hc340 Kb.lt
          clear Kb
          have HB441 := Lib.hid (bel_trans HB379.out hc340)
          clear hc340 HB379
          go_wp2_with fail
          refine (rshlV r340 (by decide) (max e 0) (by omega) (by have := HE.out; omega) 264 (by have := HE.out; omega)).mono ?_
          rintro e w342 ⟨vsk, r342, rfl, hb342⟩
          have r207xxxxxxxx := r207xxxxxxx.below hb342
          clear r207xxxxxxx
          have r277xxx := r277xx.below hb342
          clear r277xx
          have r340x := r340.below hb342
          clear r340
          have Kbxx := Kbx.below hb342 Kbx.lt
          clear Kbx
          have HB443 := Lib.hid (bel_trans HB441.out hb342)
          clear hb342 HB441
          go_wp2_with fail
          refine (rshlV r207xxxxxxxx (by decide) (max (-e) 0) (by omega) (by have := HE.out; omega) 264 (by have := HE.out; omega)).mono ?_
          rintro e w344 ⟨vsu, r344, rfl, hb344⟩
          have r207xxxxxxxxx := r207xxxxxxxx.below hb344
          clear r207xxxxxxxx
          have r277xxxx := r277xxx.below hb344
          clear r277xxx
          have r340xx := r340x.below hb344
          clear r340x
          have r342x := r342.below hb344
          clear r342
          have Kbxxx := Kbxx.below hb344 Kbxx.lt
          clear Kbxx
          have HB445 := Lib.hid (bel_trans HB443.out hb344)
          clear hb344 HB443
          go_wp2_with fail
          refine (low_any s r342x r344 (by decide) (by decide)).mono ?_
          rintro e w346 ⟨x346, y346, z346, r346, rfl, hb346⟩
          change QC w346 x346 y346 z346 264 (dyR s m e) at r346
          have r207xxxxxxxxxx := r207xxxxxxxxx.below hb346
          clear r207xxxxxxxxx
          have r277xxxxx := r277xxxx.below hb346
          clear r277xxxx
          have r340xxx := r340xx.below hb346
          clear r340xx
          have r342xx := r342x.below hb346
          clear r342x
          have r344x := r344.below hb346
          clear r344
          have Kbxxxx := Kbxxx.below hb346 Kbxxx.lt
          clear Kbxxx
          have HB447 := Lib.hid (bel_trans HB445.out hb346)
          clear hb346 HB445
          obtain ⟨sz, Az, nz, cz, Bz, mz, dz, rfl, rfl, rfl⟩ := r346.form
          have b346 := bel_alloc (Below.refl w346.heap.size w346) (.cells #[.bool sz, .slice Az nz cz, .slice Bz mz dz] 30)
          have Kz := Blk.new w346 30 #[.bool sz, .slice Az nz cz, .slice Bz mz dz]
          obtain ⟨v346, hv346⟩ : ∃ v, v = w346.alloc (.cells #[.bool sz, .slice Az nz cz, .slice Bz mz dz] 30) := ⟨_, rfl⟩
          obtain ⟨gz, hgz⟩ : ∃ g, g = w346.heap.size := ⟨_, rfl⟩
          have Gz := Lib.hid hgz
          have V346 := Lib.hid hv346
          rw [← hv346] at b346 Kz
          rw [← hgz] at Kz
          clear hv346 hgz
          have r207xxxxxxxxxxx := r207xxxxxxxxxx.below b346
          clear r207xxxxxxxxxx
          have r277xxxxxx := r277xxxxx.below b346
          clear r277xxxxx
          have r340xxxx := r340xxx.below b346
          clear r340xxx
          have r342xxx := r342xx.below b346
          clear r342xx
          have r344xx := r344x.below b346
          clear r344x
          have r346x := r346.below b346
          clear r346
          have Kbxxxxx := Kbxxxx.below b346 Kbxxxx.lt
          clear Kbxxxx
          have HB448 := Lib.hid (bel_trans HB447.out b346)
          clear b346 HB447
          obtain ⟨q0b, q1b, q2b, -, -, -⟩ := Kbxxxxx.three
          rw [V346.out] at q0b q1b q2b
          obtain ⟨q0z, q1z, q2z, -, -, -⟩ := Kz.three
          rw [V346.out] at q0z q1z q2z
          go_wp2_with fail
          rw [← Gz.out, ← V346.out]
          clear Gz V346
          clear q0b q1b q2b
          clear q0z q1z q2z
          refine (isq_any r277xxxxxx r346x (by decide) (by decide)).mono ?_
          rintro e w349 ⟨rfl, hb349⟩
          have r207xxxxxxxxxxxx := r207xxxxxxxxxxx.below hb349
          clear r207xxxxxxxxxxx
          have r277xxxxxxx := r277xxxxxx.below hb349
          clear r277xxxxxx
          have r340xxxxx := r340xxxx.below hb349
          clear r340xxxx
          have r342xxxx := r342xxx.below hb349
          clear r342xxx
          have r344xxx := r344xx.below hb349
          clear r344xx
          have r346xx := r346x.below hb349
          clear r346x
          have Kbxxxxxx := Kbxxxxx.below hb349 Kbxxxxx.lt
          clear Kbxxxxx
          have Kzx := Kz.below hb349 Kz.lt
          clear Kz
          have HB450 := Lib.hid (bel_trans HB448.out hb349)
          clear hb349 HB448
          go_wp2_with fail
          go_ret
          exact ⟨rfl, HB450.out⟩
    · have SW : Hid (x = (x.natAbs : Int)) := by show _ = _; omega
      have hsd : decide (x < 0) = false := decide_eq_false hs
      go_wp2_with fail
      have bb507 := bel_alloc (Below.refl v201.drew.heap.size v201.drew) (.cells #[.int .u64 1] 49)
      refine (ofV (W := v201.drew) (a := 1) ⟨by decide, by decide⟩).mono ?_
      rintro e w507 ⟨vu, r507, rfl, hb507⟩
      have hc507 := bel_trans bb507 hb507
      clear bb507 hb507
      have HB608 := Lib.hid (bel_trans HB306.out hc507)
      clear hc507 HB306
      go_wp2_with fail
      refine (int_any x ⟨x0, x1⟩ _).mono ?_
      rintro e w509 ⟨x509, y509, z509, r509, rfl, hb509⟩
      have r507x := r507.below hb509
      clear r507
      have HB610 := Lib.hid (bel_trans HB608.out hb509)
      clear hb509 HB608
      go_wp2_with fail
      have bb511 := bel_alloc (Below.refl w509.heap.size w509) (.cells #[.int .u64 x] 49)
      refine (ofV (W := w509) (a := x) ⟨by omega, by omega⟩).mono ?_
      rintro e w511 ⟨vw, r511, rfl, hb511⟩
      have hc511 := bel_trans bb511 hb511
      clear bb511 hb511
      have r507xx := r507x.below hc511
      clear r507x
      have r509x := r509.below hc511
      clear r509
      have HB612 := Lib.hid (bel_trans HB610.out hc511)
      clear hc511 HB610
      go_wp2_with fail
      refine (low_any false r511 r507xx (by decide) (by decide)).mono ?_
      rw [show rv false x 1 = intR x from by have h := int_rv x; rw [hsd, ← SW.out] at h; exact h]
      rintro e w513 ⟨x513, y513, z513, r513, rfl, hb513⟩
      have r507xxx := r507xx.below hb513
      clear r507xx
      have r509xx := r509x.below hb513
      clear r509x
      have r511x := r511.below hb513
      clear r511
      have HB614 := Lib.hid (bel_trans HB612.out hb513)
      clear hb513 HB612
      go_wp2_with fail
      refine (isq_any r509xx r513 (by decide) (by decide)).mono ?_
      rintro e w515 ⟨rfl, hb515⟩
      have r507xxxx := r507xxx.below hb515
      clear r507xxx
      have r509xxx := r509xx.below hb515
      clear r509xx
      have r511xx := r511x.below hb515
      clear r511x
      have r513x := r513.below hb515
      clear r513
      have HB616 := Lib.hid (bel_trans HB614.out hb515)
      clear hb515 HB614
      clear r509xxx
      clear r511xx
      clear r513x
      clear hsd SW
      by_cases he : e < -8192 ∨ 8192 < e
      · go_wp2_with fail
        refine (qdyad_long s m e hm he _).mono ?_
        rintro e w537 ⟨rfl, hb537⟩
        have r507xxxxx := r507xxxx.below hb537
        clear r507xxxx
        have HB638 := Lib.hid (bel_trans HB616.out hb537)
        clear hb537 HB616
        by_cases he1 : e < -8192
        · go_wp2_with fail
          go_ret
          exact ⟨rfl, bel_alloc HB638.out _⟩
        · have he2 : 8192 < e := by omega
          have he1' : decide (e < -8192) = false := decide_eq_false he1
          go_wp2_with fail
          go_ret
          exact ⟨rfl, bel_alloc HB638.out _⟩
      · have g1 : decide (e < -8192) = false := decide_eq_false (by omega)
        have g2 : decide (8192 < e) = false := decide_eq_false (by omega)
        go_wp2_with fail
        refine (qdyad_any s m e hm ⟨by omega, by omega⟩ _ (hT.below HB616.out)).mono ?_
        rintro e w577 ⟨x577, y577, z577, r577, rfl, hb577⟩
        have r507xxxxx := r507xxxx.below hb577
        clear r507xxxx
        have HB678 := Lib.hid (bel_trans HB616.out hb577)
        clear hb577 HB616
        obtain ⟨sb, Ab, nb, cb, Bb, mb, db, rfl, rfl, rfl⟩ := r577.form
        have b577 := bel_alloc (Below.refl w577.heap.size w577) (.cells #[.bool sb, .slice Ab nb cb, .slice Bb mb db] 25)
        have Kb := Blk.new w577 25 #[.bool sb, .slice Ab nb cb, .slice Bb mb db]
        obtain ⟨v577, hv577⟩ : ∃ v, v = w577.alloc (.cells #[.bool sb, .slice Ab nb cb, .slice Bb mb db] 25) := ⟨_, rfl⟩
        obtain ⟨gb, hgb⟩ : ∃ g, g = w577.heap.size := ⟨_, rfl⟩
        have Gb := Lib.hid hgb
        have V577 := Lib.hid hv577
        rw [← hv577] at b577 Kb
        rw [← hgb] at Kb
        clear hv577 hgb
        have r507xxxxxx := r507xxxxx.below b577
        clear r507xxxxx
        have r577x := r577.below b577
        clear r577
        have HB679 := Lib.hid (bel_trans HB678.out b577)
        clear b577 HB678
        by_cases hf : e < -200 ∨ 200 < e
        · by_cases he1 : e < -200
          · go_wp2_with fail
            go_ret
            exact ⟨rfl, by rw [← V577.out]; exact HB679.out⟩
          · have he2 : 200 < e := by omega
            have he1' : decide (e < -200) = false := decide_eq_false he1
            go_wp2_with fail
            go_ret
            exact ⟨rfl, by rw [← V577.out]; exact HB679.out⟩
        · have g3 : decide (e < -200) = false := decide_eq_false (by omega)
          have g4 : decide (200 < e) = false := decide_eq_false (by omega)
          have HE : Hid (-200 ≤ e ∧ e ≤ 200) := by show _ ∧ _; omega
          have WN : IntKind.i64.wrap (-e) = -e := wrap_in (by omega) (by omega)
          clear hf he ee0 ee1
          go_wp2_with fail
          have SZ : v577.heap.size = gb + 1 := by rw [V577.out, size_alloc, ← Gb.out]
          rw [← Gb.out, ← V577.out, ← SZ]
          clear Gb V577 SZ
          have bb640 := bel_alloc (Below.refl v577.heap.size v577) (.cells #[.int .u64 m] 49)
          refine (ofV (W := v577) (a := m) hm).mono ?_
          rintro e w640 ⟨vm, r640, rfl, hb640⟩
          have hc640 := bel_trans bb640 hb640
          clear bb640 hb640
          have r507xxxxxxx := r507xxxxxx.below hc640
          clear r507xxxxxx
          have r577xx := r577x.below hc640
          clear r577x
          have Kbx := Kb.below hc640 Kb.lt
          clear Kb
          have HB741 := Lib.hid (bel_trans HB679.out hc640)
          clear hc640 HB679
          go_wp2_with fail
          refine (rshlV r640 (by decide) (max e 0) (by omega) (by have := HE.out; omega) 264 (by have := HE.out; omega)).mono ?_
          rintro e w642 ⟨vsk, r642, rfl, hb642⟩
          have r507xxxxxxxx := r507xxxxxxx.below hb642
          clear r507xxxxxxx
          have r577xxx := r577xx.below hb642
          clear r577xx
          have r640x := r640.below hb642
          clear r640
          have Kbxx := Kbx.below hb642 Kbx.lt
          clear Kbx
          have HB743 := Lib.hid (bel_trans HB741.out hb642)
          clear hb642 HB741
          go_wp2_with fail
          refine (rshlV r507xxxxxxxx (by decide) (max (-e) 0) (by omega) (by have := HE.out; omega) 264 (by have := HE.out; omega)).mono ?_
          rintro e w644 ⟨vsu, r644, rfl, hb644⟩
          have r507xxxxxxxxx := r507xxxxxxxx.below hb644
          clear r507xxxxxxxx
          have r577xxxx := r577xxx.below hb644
          clear r577xxx
          have r640xx := r640x.below hb644
          clear r640x
          have r642x := r642.below hb644
          clear r642
          have Kbxxx := Kbxx.below hb644 Kbxx.lt
          clear Kbxx
          have HB745 := Lib.hid (bel_trans HB743.out hb644)
          clear hb644 HB743
          go_wp2_with fail
          refine (low_any s r642x r644 (by decide) (by decide)).mono ?_
          rintro e w646 ⟨x646, y646, z646, r646, rfl, hb646⟩
          change QC w646 x646 y646 z646 264 (dyR s m e) at r646
          have r507xxxxxxxxxx := r507xxxxxxxxx.below hb646
          clear r507xxxxxxxxx
          have r577xxxxx := r577xxxx.below hb646
          clear r577xxxx
          have r640xxx := r640xx.below hb646
          clear r640xx
          have r642xx := r642x.below hb646
          clear r642x
          have r644x := r644.below hb646
          clear r644
          have Kbxxxx := Kbxxx.below hb646 Kbxxx.lt
          clear Kbxxx
          have HB747 := Lib.hid (bel_trans HB745.out hb646)
          clear hb646 HB745
          obtain ⟨sz, Az, nz, cz, Bz, mz, dz, rfl, rfl, rfl⟩ := r646.form
          have b646 := bel_alloc (Below.refl w646.heap.size w646) (.cells #[.bool sz, .slice Az nz cz, .slice Bz mz dz] 30)
          have Kz := Blk.new w646 30 #[.bool sz, .slice Az nz cz, .slice Bz mz dz]
          obtain ⟨v646, hv646⟩ : ∃ v, v = w646.alloc (.cells #[.bool sz, .slice Az nz cz, .slice Bz mz dz] 30) := ⟨_, rfl⟩
          obtain ⟨gz, hgz⟩ : ∃ g, g = w646.heap.size := ⟨_, rfl⟩
          have Gz := Lib.hid hgz
          have V646 := Lib.hid hv646
          rw [← hv646] at b646 Kz
          rw [← hgz] at Kz
          clear hv646 hgz
          have r507xxxxxxxxxxx := r507xxxxxxxxxx.below b646
          clear r507xxxxxxxxxx
          have r577xxxxxx := r577xxxxx.below b646
          clear r577xxxxx
          have r640xxxx := r640xxx.below b646
          clear r640xxx
          have r642xxx := r642xx.below b646
          clear r642xx
          have r644xx := r644x.below b646
          clear r644x
          have r646x := r646.below b646
          clear r646
          have Kbxxxxx := Kbxxxx.below b646 Kbxxxx.lt
          clear Kbxxxx
          have HB748 := Lib.hid (bel_trans HB747.out b646)
          clear b646 HB747
          obtain ⟨q0b, q1b, q2b, -, -, -⟩ := Kbxxxxx.three
          rw [V646.out] at q0b q1b q2b
          obtain ⟨q0z, q1z, q2z, -, -, -⟩ := Kz.three
          rw [V646.out] at q0z q1z q2z
          go_wp2_with fail
          rw [← Gz.out, ← V646.out]
          clear Gz V646
          clear q0b q1b q2b
          clear q0z q1z q2z
          refine (isq_any r577xxxxxx r646x (by decide) (by decide)).mono ?_
          rintro e w649 ⟨rfl, hb649⟩
          have r507xxxxxxxxxxxx := r507xxxxxxxxxxx.below hb649
          clear r507xxxxxxxxxxx
          have r577xxxxxxx := r577xxxxxx.below hb649
          clear r577xxxxxx
          have r640xxxxx := r640xxxx.below hb649
          clear r640xxxx
          have r642xxxx := r642xxx.below hb649
          clear r642xxx
          have r644xxx := r644xx.below hb649
          clear r644xx
          have r646xx := r646x.below hb649
          clear r646x
          have Kbxxxxxx := Kbxxxxx.below hb649 Kbxxxxx.lt
          clear Kbxxxxx
          have Kzx := Kz.below hb649 Kz.lt
          clear Kz
          have HB750 := Lib.hid (bel_trans HB748.out hb649)
          clear hb649 HB748
          go_wp2_with fail
          go_ret
          exact ⟨rfl, HB750.out⟩
  · have D1 : (0 : Int) < (nd : Int) := by rw [decide_eq_false hq] at D0; simp at D0; omega
    clear D0
    go_wp2_with fail
    refine (qnew_any s epxx eqxx (by decide) (by decide) (hT.below HB104.out) hq).mono ?_
    rintro e w502 ⟨x502, y502, z502, r502, rfl, hb502⟩
    have epxxx := epxx.below hb502
    clear epxx
    have eqxxx := eqxx.below hb502
    clear eqxx
    have r1xx := r1x.below hb502
    clear r1x
    have r3x := r3.below hb502
    clear r3
    have HB603 := Lib.hid (bel_trans HB104.out hb502)
    clear hb502 HB104
    obtain ⟨sa, Aa, na, ca, Ba, ma, da, rfl, rfl, rfl⟩ := r502.form
    have b502 := bel_alloc (Below.refl w502.heap.size w502) (.cells #[.bool sa, .slice Aa na ca, .slice Ba ma da] 25)
    have Ka := Blk.new w502 25 #[.bool sa, .slice Aa na ca, .slice Ba ma da]
    obtain ⟨v502, hv502⟩ : ∃ v, v = w502.alloc (.cells #[.bool sa, .slice Aa na ca, .slice Ba ma da] 25) := ⟨_, rfl⟩
    obtain ⟨ga, hga⟩ : ∃ g, g = w502.heap.size := ⟨_, rfl⟩
    have Ga := Lib.hid hga
    have V502 := Lib.hid hv502
    rw [← hv502] at b502 Ka
    rw [← hga] at Ka
    clear hv502 hga
    have epxxxx := epxxx.below b502
    clear epxxx
    have eqxxxx := eqxxx.below b502
    clear eqxxx
    have r1xxx := r1xx.below b502
    clear r1xx
    have r3xx := r3x.below b502
    clear r3x
    have r502x := r502.below b502
    clear r502
    have HB604 := Lib.hid (bel_trans HB603.out b502)
    clear b502 HB603
    obtain ⟨q0a, q1a, q2a, -, -, -⟩ := Ka.three
    rw [V502.out] at q0a q1a q2a
    go_upto_region 11 with fail
    rw [← Ga.out, ← V502.out]
    clear Ga V502
    clear q0a q1a q2a
    obtain ⟨q0a, q1a, q2a, -, -, -⟩ := Ka.three
    have HK505 : Hid (∀ w', Below v502.heap.size v502 w' → w'.cell? ⟨ga, 0, none⟩ = some (.bool sa) ∧ w'.cell? ⟨ga, 1, none⟩ = some (.slice Aa na ca) ∧ w'.cell? ⟨ga, 2, none⟩ = some (.slice Ba ma da)) := fun w' hb => kps3 hb q0a q1a q2a
    clear q0a q1a q2a
    refine region_plan (S := fun w' => w'.cell? ⟨ga, 0, none⟩ = some (.bool sa) ∧ w'.cell? ⟨ga, 1, none⟩ = some (.slice Aa na ca) ∧ w'.cell? ⟨ga, 2, none⟩ = some (.slice Ba ma da)) _ [(0, true), (1, true), (2, true), (3, true), (4, true), (5, true), (6, true), (7, false), (8, false), (9, true), (10, true)] (by kernel_rfl) (by kernel_rfl) rfl (by kernel_rfl) (by kernel_rfl) (fun _ _ d _ _ h => by cases d <;> exact h) (HK505.out _ (bel_drew (Below.refl _ _))) ?_
    refine Walk.take (v := ?_) rfl (by rfl) ?_ ?_
    rotate_left
    · (intro w' hSw; (try dsimp only at hSw); go_simp <;> with_reducible rfl)
    try simp only [Act.put, List.setIfInBounds_toArray, List.set_cons_zero, List.set_cons_succ]
    refine Walk.take (v := ?_) rfl (by rfl) ?_ ?_
    rotate_left
    · (intro w' hSw; (try dsimp only at hSw); go_simp <;> with_reducible rfl)
    try simp only [Act.put, List.setIfInBounds_toArray, List.set_cons_zero, List.set_cons_succ]
    refine Walk.take (v := ?_) rfl (by rfl) ?_ ?_
    rotate_left
    · (intro w' hSw; (try dsimp only at hSw); go_simp <;> with_reducible rfl)
    try simp only [Act.put, List.setIfInBounds_toArray, List.set_cons_zero, List.set_cons_succ]
    refine Walk.take (v := ?_) rfl (by rfl) ?_ ?_
    rotate_left
    · (intro w' hSw; (try dsimp only at hSw); go_simp <;> with_reducible rfl)
    try simp only [Act.put, List.setIfInBounds_toArray, List.set_cons_zero, List.set_cons_succ]
    refine Walk.take (v := ?_) rfl (by rfl) ?_ ?_
    rotate_left
    · (intro w' hSw; (try dsimp only at hSw); go_simp <;> with_reducible rfl)
    try simp only [Act.put, List.setIfInBounds_toArray, List.set_cons_zero, List.set_cons_succ]
    refine Walk.take (v := ?_) rfl (by rfl) ?_ ?_
    rotate_left
    · (intro w' hSw; (try dsimp only at hSw); go_simp <;> with_reducible rfl)
    try simp only [Act.put, List.setIfInBounds_toArray, List.set_cons_zero, List.set_cons_succ]
    refine Walk.take (v := ?_) rfl (by rfl) ?_ ?_
    rotate_left
    · (intro w' hSw; (try dsimp only at hSw); go_simp <;> with_reducible rfl)
    try simp only [Act.put, List.setIfInBounds_toArray, List.set_cons_zero, List.set_cons_succ]
    refine Walk.act rfl (by rfl) (fun K hK => ?_)
    go_simp
    go_at_call 23
    refine (low_any (w := v502.drew) s (r1xxx.below (bel_drew (Below.refl v502.heap.size v502))).v (r3xx.below (bel_drew (Below.refl v502.heap.size v502))).v (by decide) (by decide)).mono ?_
    rintro e t506_1 ⟨x506_1, y506_1, z506_1, r506_1, rfl, hb506_1⟩
    have X506_1 : Below v502.heap.size v502 t506_1 := bel_trans (bel_drew (Below.refl v502.heap.size v502)) hb506_1
    refine hK.out _ _ (HK505.out _ X506_1) ?_
    clear hK K
    try simp only [Act.put, List.setIfInBounds_toArray, List.set_cons_zero, List.set_cons_succ]
    refine Walk.act rfl (by rfl) (fun K hK => ?_)
    go_simp
    go_at_call 12
    refine (isq_any (w := t506_1) (r502x.below X506_1) r506_1 (by decide) (by decide)).mono ?_
    rintro e t506_2 ⟨rfl, hb506_2⟩
    have X506_2 : Below v502.heap.size v502 t506_2 := bel_trans X506_1 hb506_2
    refine hK.out _ _ (HK505.out _ X506_2) ?_
    clear hK K
    try simp only [Act.put, List.setIfInBounds_toArray, List.set_cons_zero, List.set_cons_succ]
    refine Walk.take (v := ?_) rfl (by rfl) ?_ ?_
    rotate_left
    · (intro w' hSw; (try dsimp only at hSw); go_simp <;> with_reducible rfl)
    try simp only [Act.put, List.setIfInBounds_toArray, List.set_cons_zero, List.set_cons_succ]
    refine Walk.take (v := ?_) rfl (by rfl) ?_ ?_
    rotate_left
    · (intro w' hSw; (try dsimp only at hSw); go_simp <;> with_reducible rfl)
    try simp only [Act.put, List.setIfInBounds_toArray, List.set_cons_zero, List.set_cons_succ]
    refine Walk.done ?_
    clear HK505
    have epxxxxx := epxxxx.below X506_2
    clear epxxxx
    have eqxxxxx := eqxxxx.below X506_2
    clear eqxxxx
    have r1xxxx := r1xxx.below X506_2
    clear r1xxx
    have r3xxx := r3xx.below X506_2
    clear r3xx
    have r502xx := r502x.below X506_2
    clear r502x
    have Kax := Ka.below X506_2 Ka.lt
    clear Ka
    have HB607 := Lib.hid (bel_trans HB604.out X506_2)
    clear HB604
    clear epxxxxx
    clear eqxxxxx
    clear r1xxxx
    clear r3xxx
    clear r502xx
    clear Kax
    by_cases hs : x < 0
    · obtain ⟨sw1, sw2⟩ := sub_word ⟨x0, x1⟩ hs
      have hsd : decide (x < 0) = true := decide_eq_true hs
      go_wp2_with fail
      have bb508 := bel_alloc (Below.refl t506_2.heap.size t506_2) (.cells #[.int .u64 1] 49)
      refine (ofV (W := t506_2) (a := 1) ⟨by decide, by decide⟩).mono ?_
      rintro e w508 ⟨vu, r508, rfl, hb508⟩
      have hc508 := bel_trans bb508 hb508
      clear bb508 hb508
      have HB609 := Lib.hid (bel_trans HB607.out hc508)
      clear hc508 HB607
      go_wp2_with fail
      refine (int_any x ⟨x0, x1⟩ _).mono ?_
      rintro e w510 ⟨x510, y510, z510, r510, rfl, hb510⟩
      have r508x := r508.below hb510
      clear r508
      have HB611 := Lib.hid (bel_trans HB609.out hb510)
      clear hb510 HB609
      go_wp2_with fail
      clear sw1 sw2
      have bb512 := bel_alloc (Below.refl w510.heap.size w510) (.cells #[.int .u64 (x.natAbs : Int)] 49)
      refine (ofV (W := w510) (a := (x.natAbs : Int)) ⟨by omega, by omega⟩).mono ?_
      rintro e w512 ⟨vw, r512, rfl, hb512⟩
      have hc512 := bel_trans bb512 hb512
      clear bb512 hb512
      have r508xx := r508x.below hc512
      clear r508x
      have r510x := r510.below hc512
      clear r510
      have HB613 := Lib.hid (bel_trans HB611.out hc512)
      clear hc512 HB611
      go_wp2_with fail
      refine (low_any true r512 r508xx (by decide) (by decide)).mono ?_
      rw [show rv true (x.natAbs : Int) 1 = intR x from by have h := int_rv x; rw [hsd] at h; exact h]
      rintro e w514 ⟨x514, y514, z514, r514, rfl, hb514⟩
      have r508xxx := r508xx.below hb514
      clear r508xx
      have r510xx := r510x.below hb514
      clear r510x
      have r512x := r512.below hb514
      clear r512
      have HB615 := Lib.hid (bel_trans HB613.out hb514)
      clear hb514 HB613
      go_wp2_with fail
      refine (isq_any r510xx r514 (by decide) (by decide)).mono ?_
      rintro e w516 ⟨rfl, hb516⟩
      have r508xxxx := r508xxx.below hb516
      clear r508xxx
      have r510xxx := r510xx.below hb516
      clear r510xx
      have r512xx := r512x.below hb516
      clear r512x
      have r514x := r514.below hb516
      clear r514
      have HB617 := Lib.hid (bel_trans HB615.out hb516)
      clear hb516 HB615
      clear r510xxx
      clear r512xx
      clear r514x
      clear hsd
      by_cases he : e < -8192 ∨ 8192 < e
      · go_wp2_with fail
        refine (qdyad_long s m e hm he _).mono ?_
        rintro e w538 ⟨rfl, hb538⟩
        have r508xxxxx := r508xxxx.below hb538
        clear r508xxxx
        have HB639 := Lib.hid (bel_trans HB617.out hb538)
        clear hb538 HB617
        by_cases he1 : e < -8192
        · go_wp2_with fail
          go_ret
          exact ⟨rfl, bel_alloc HB639.out _⟩
        · have he2 : 8192 < e := by omega
          have he1' : decide (e < -8192) = false := decide_eq_false he1
          go_wp2_with fail
          go_ret
          exact ⟨rfl, bel_alloc HB639.out _⟩
      · have g1 : decide (e < -8192) = false := decide_eq_false (by omega)
        have g2 : decide (8192 < e) = false := decide_eq_false (by omega)
        go_wp2_with fail
        refine (qdyad_any s m e hm ⟨by omega, by omega⟩ _ (hT.below HB617.out)).mono ?_
        rintro e w578 ⟨x578, y578, z578, r578, rfl, hb578⟩
        have r508xxxxx := r508xxxx.below hb578
        clear r508xxxx
        have HB679 := Lib.hid (bel_trans HB617.out hb578)
        clear hb578 HB617
        obtain ⟨sb, Ab, nb, cb, Bb, mb, db, rfl, rfl, rfl⟩ := r578.form
        have b578 := bel_alloc (Below.refl w578.heap.size w578) (.cells #[.bool sb, .slice Ab nb cb, .slice Bb mb db] 25)
        have Kb := Blk.new w578 25 #[.bool sb, .slice Ab nb cb, .slice Bb mb db]
        obtain ⟨v578, hv578⟩ : ∃ v, v = w578.alloc (.cells #[.bool sb, .slice Ab nb cb, .slice Bb mb db] 25) := ⟨_, rfl⟩
        obtain ⟨gb, hgb⟩ : ∃ g, g = w578.heap.size := ⟨_, rfl⟩
        have Gb := Lib.hid hgb
        have V578 := Lib.hid hv578
        rw [← hv578] at b578 Kb
        rw [← hgb] at Kb
        clear hv578 hgb
        have r508xxxxxx := r508xxxxx.below b578
        clear r508xxxxx
        have r578x := r578.below b578
        clear r578
        have HB680 := Lib.hid (bel_trans HB679.out b578)
        clear b578 HB679
        by_cases hf : e < -200 ∨ 200 < e
        · by_cases he1 : e < -200
          · go_wp2_with fail
            go_ret
            exact ⟨rfl, by rw [← V578.out]; exact HB680.out⟩
          · have he2 : 200 < e := by omega
            have he1' : decide (e < -200) = false := decide_eq_false he1
            go_wp2_with fail
            go_ret
            exact ⟨rfl, by rw [← V578.out]; exact HB680.out⟩
        · have g3 : decide (e < -200) = false := decide_eq_false (by omega)
          have g4 : decide (200 < e) = false := decide_eq_false (by omega)
          have HE : Hid (-200 ≤ e ∧ e ≤ 200) := by show _ ∧ _; omega
          have WN : IntKind.i64.wrap (-e) = -e := wrap_in (by omega) (by omega)
          clear hf he ee0 ee1
          go_wp2_with fail
          have SZ : v578.heap.size = gb + 1 := by rw [V578.out, size_alloc, ← Gb.out]
          rw [← Gb.out, ← V578.out, ← SZ]
          clear Gb V578 SZ
          have bb641 := bel_alloc (Below.refl v578.heap.size v578) (.cells #[.int .u64 m] 49)
          refine (ofV (W := v578) (a := m) hm).mono ?_
          rintro e w641 ⟨vm, r641, rfl, hb641⟩
          have hc641 := bel_trans bb641 hb641
          clear bb641 hb641
          have r508xxxxxxx := r508xxxxxx.below hc641
          clear r508xxxxxx
          have r578xx := r578x.below hc641
          clear r578x
          have Kbx := Kb.below hc641 Kb.lt
          clear Kb
          have HB742 := Lib.hid (bel_trans HB680.out hc641)
          clear hc641 HB680
          go_wp2_with fail
          refine (rshlV r641 (by decide) (max e 0) (by omega) (by have := HE.out; omega) 264 (by have := HE.out; omega)).mono ?_
          rintro e w643 ⟨vsk, r643, rfl, hb643⟩
          have r508xxxxxxxx := r508xxxxxxx.below hb643
          clear r508xxxxxxx
          have r578xxx := r578xx.below hb643
          clear r578xx
          have r641x := r641.below hb643
          clear r641
          have Kbxx := Kbx.below hb643 Kbx.lt
          clear Kbx
          have HB744 := Lib.hid (bel_trans HB742.out hb643)
          clear hb643 HB742
          go_wp2_with fail
          refine (rshlV r508xxxxxxxx (by decide) (max (-e) 0) (by omega) (by have := HE.out; omega) 264 (by have := HE.out; omega)).mono ?_
          rintro e w645 ⟨vsu, r645, rfl, hb645⟩
          have r508xxxxxxxxx := r508xxxxxxxx.below hb645
          clear r508xxxxxxxx
          have r578xxxx := r578xxx.below hb645
          clear r578xxx
          have r641xx := r641x.below hb645
          clear r641x
          have r643x := r643.below hb645
          clear r643
          have Kbxxx := Kbxx.below hb645 Kbxx.lt
          clear Kbxx
          have HB746 := Lib.hid (bel_trans HB744.out hb645)
          clear hb645 HB744
          go_wp2_with fail
          refine (low_any s r643x r645 (by decide) (by decide)).mono ?_
          rintro e w647 ⟨x647, y647, z647, r647, rfl, hb647⟩
          change QC w647 x647 y647 z647 264 (dyR s m e) at r647
          have r508xxxxxxxxxx := r508xxxxxxxxx.below hb647
          clear r508xxxxxxxxx
          have r578xxxxx := r578xxxx.below hb647
          clear r578xxxx
          have r641xxx := r641xx.below hb647
          clear r641xx
          have r643xx := r643x.below hb647
          clear r643x
          have r645x := r645.below hb647
          clear r645
          have Kbxxxx := Kbxxx.below hb647 Kbxxx.lt
          clear Kbxxx
          have HB748 := Lib.hid (bel_trans HB746.out hb647)
          clear hb647 HB746
          obtain ⟨sz, Az, nz, cz, Bz, mz, dz, rfl, rfl, rfl⟩ := r647.form
          have b647 := bel_alloc (Below.refl w647.heap.size w647) (.cells #[.bool sz, .slice Az nz cz, .slice Bz mz dz] 30)
          have Kz := Blk.new w647 30 #[.bool sz, .slice Az nz cz, .slice Bz mz dz]
          obtain ⟨v647, hv647⟩ : ∃ v, v = w647.alloc (.cells #[.bool sz, .slice Az nz cz, .slice Bz mz dz] 30) := ⟨_, rfl⟩
          obtain ⟨gz, hgz⟩ : ∃ g, g = w647.heap.size := ⟨_, rfl⟩
          have Gz := Lib.hid hgz
          have V647 := Lib.hid hv647
          rw [← hv647] at b647 Kz
          rw [← hgz] at Kz
          clear hv647 hgz
          have r508xxxxxxxxxxx := r508xxxxxxxxxx.below b647
          clear r508xxxxxxxxxx
          have r578xxxxxx := r578xxxxx.below b647
          clear r578xxxxx
          have r641xxxx := r641xxx.below b647
          clear r641xxx
          have r643xxx := r643xx.below b647
          clear r643xx
          have r645xx := r645x.below b647
          clear r645x
          have r647x := r647.below b647
          clear r647
          have Kbxxxxx := Kbxxxx.below b647 Kbxxxx.lt
          clear Kbxxxx
          have HB749 := Lib.hid (bel_trans HB748.out b647)
          clear b647 HB748
          obtain ⟨q0b, q1b, q2b, -, -, -⟩ := Kbxxxxx.three
          rw [V647.out] at q0b q1b q2b
          obtain ⟨q0z, q1z, q2z, -, -, -⟩ := Kz.three
          rw [V647.out] at q0z q1z q2z
          go_wp2_with fail
          rw [← Gz.out, ← V647.out]
          clear Gz V647
          clear q0b q1b q2b
          clear q0z q1z q2z
          refine (isq_any r578xxxxxx r647x (by decide) (by decide)).mono ?_
          rintro e w650 ⟨rfl, hb650⟩
          have r508xxxxxxxxxxxx := r508xxxxxxxxxxx.below hb650
          clear r508xxxxxxxxxxx
          have r578xxxxxxx := r578xxxxxx.below hb650
          clear r578xxxxxx
          have r641xxxxx := r641xxxx.below hb650
          clear r641xxxx
          have r643xxxx := r643xxx.below hb650
          clear r643xxx
          have r645xxx := r645xx.below hb650
          clear r645xx
          have r647xx := r647x.below hb650
          clear r647x
          have Kbxxxxxx := Kbxxxxx.below hb650 Kbxxxxx.lt
          clear Kbxxxxx
          have Kzx := Kz.below hb650 Kz.lt
          clear Kz
          have HB751 := Lib.hid (bel_trans HB749.out hb650)
          clear hb650 HB749
          go_wp2_with fail
          go_ret
          exact ⟨rfl, HB751.out⟩
    · have SW : Hid (x = (x.natAbs : Int)) := by show _ = _; omega
      have hsd : decide (x < 0) = false := decide_eq_false hs
      go_wp2_with fail
      have bb808 := bel_alloc (Below.refl t506_2.heap.size t506_2) (.cells #[.int .u64 1] 49)
      refine (ofV (W := t506_2) (a := 1) ⟨by decide, by decide⟩).mono ?_
      rintro e w808 ⟨vu, r808, rfl, hb808⟩
      have hc808 := bel_trans bb808 hb808
      clear bb808 hb808
      have HB909 := Lib.hid (bel_trans HB607.out hc808)
      clear hc808 HB607
      go_wp2_with fail
      refine (int_any x ⟨x0, x1⟩ _).mono ?_
      rintro e w810 ⟨x810, y810, z810, r810, rfl, hb810⟩
      have r808x := r808.below hb810
      clear r808
      have HB911 := Lib.hid (bel_trans HB909.out hb810)
      clear hb810 HB909
      go_wp2_with fail
      have bb812 := bel_alloc (Below.refl w810.heap.size w810) (.cells #[.int .u64 x] 49)
      refine (ofV (W := w810) (a := x) ⟨by omega, by omega⟩).mono ?_
      rintro e w812 ⟨vw, r812, rfl, hb812⟩
      have hc812 := bel_trans bb812 hb812
      clear bb812 hb812
      have r808xx := r808x.below hc812
      clear r808x
      have r810x := r810.below hc812
      clear r810
      have HB913 := Lib.hid (bel_trans HB911.out hc812)
      clear hc812 HB911
      go_wp2_with fail
      refine (low_any false r812 r808xx (by decide) (by decide)).mono ?_
      rw [show rv false x 1 = intR x from by have h := int_rv x; rw [hsd, ← SW.out] at h; exact h]
      rintro e w814 ⟨x814, y814, z814, r814, rfl, hb814⟩
      have r808xxx := r808xx.below hb814
      clear r808xx
      have r810xx := r810x.below hb814
      clear r810x
      have r812x := r812.below hb814
      clear r812
      have HB915 := Lib.hid (bel_trans HB913.out hb814)
      clear hb814 HB913
      go_wp2_with fail
      refine (isq_any r810xx r814 (by decide) (by decide)).mono ?_
      rintro e w816 ⟨rfl, hb816⟩
      have r808xxxx := r808xxx.below hb816
      clear r808xxx
      have r810xxx := r810xx.below hb816
      clear r810xx
      have r812xx := r812x.below hb816
      clear r812x
      have r814x := r814.below hb816
      clear r814
      have HB917 := Lib.hid (bel_trans HB915.out hb816)
      clear hb816 HB915
      clear r810xxx
      clear r812xx
      clear r814x
      clear hsd SW
      by_cases he : e < -8192 ∨ 8192 < e
      · go_wp2_with fail
        refine (qdyad_long s m e hm he _).mono ?_
        rintro e w838 ⟨rfl, hb838⟩
        have r808xxxxx := r808xxxx.below hb838
        clear r808xxxx
        have HB939 := Lib.hid (bel_trans HB917.out hb838)
        clear hb838 HB917
        by_cases he1 : e < -8192
        · go_wp2_with fail
          go_ret
          exact ⟨rfl, bel_alloc HB939.out _⟩
        · have he2 : 8192 < e := by omega
          have he1' : decide (e < -8192) = false := decide_eq_false he1
          go_wp2_with fail
          go_ret
          exact ⟨rfl, bel_alloc HB939.out _⟩
      · have g1 : decide (e < -8192) = false := decide_eq_false (by omega)
        have g2 : decide (8192 < e) = false := decide_eq_false (by omega)
        go_wp2_with fail
        refine (qdyad_any s m e hm ⟨by omega, by omega⟩ _ (hT.below HB917.out)).mono ?_
        rintro e w878 ⟨x878, y878, z878, r878, rfl, hb878⟩
        have r808xxxxx := r808xxxx.below hb878
        clear r808xxxx
        have HB979 := Lib.hid (bel_trans HB917.out hb878)
        clear hb878 HB917
        obtain ⟨sb, Ab, nb, cb, Bb, mb, db, rfl, rfl, rfl⟩ := r878.form
        have b878 := bel_alloc (Below.refl w878.heap.size w878) (.cells #[.bool sb, .slice Ab nb cb, .slice Bb mb db] 25)
        have Kb := Blk.new w878 25 #[.bool sb, .slice Ab nb cb, .slice Bb mb db]
        obtain ⟨v878, hv878⟩ : ∃ v, v = w878.alloc (.cells #[.bool sb, .slice Ab nb cb, .slice Bb mb db] 25) := ⟨_, rfl⟩
        obtain ⟨gb, hgb⟩ : ∃ g, g = w878.heap.size := ⟨_, rfl⟩
        have Gb := Lib.hid hgb
        have V878 := Lib.hid hv878
        rw [← hv878] at b878 Kb
        rw [← hgb] at Kb
        clear hv878 hgb
        have r808xxxxxx := r808xxxxx.below b878
        clear r808xxxxx
        have r878x := r878.below b878
        clear r878
        have HB980 := Lib.hid (bel_trans HB979.out b878)
        clear b878 HB979
        by_cases hf : e < -200 ∨ 200 < e
        · by_cases he1 : e < -200
          · go_wp2_with fail
            go_ret
            exact ⟨rfl, by rw [← V878.out]; exact HB980.out⟩
          · have he2 : 200 < e := by omega
            have he1' : decide (e < -200) = false := decide_eq_false he1
            go_wp2_with fail
            go_ret
            exact ⟨rfl, by rw [← V878.out]; exact HB980.out⟩
        · have g3 : decide (e < -200) = false := decide_eq_false (by omega)
          have g4 : decide (200 < e) = false := decide_eq_false (by omega)
          have HE : Hid (-200 ≤ e ∧ e ≤ 200) := by show _ ∧ _; omega
          have WN : IntKind.i64.wrap (-e) = -e := wrap_in (by omega) (by omega)
          clear hf he ee0 ee1
          go_wp2_with fail
          have SZ : v878.heap.size = gb + 1 := by rw [V878.out, size_alloc, ← Gb.out]
          rw [← Gb.out, ← V878.out, ← SZ]
          clear Gb V878 SZ
          have bb941 := bel_alloc (Below.refl v878.heap.size v878) (.cells #[.int .u64 m] 49)
          refine (ofV (W := v878) (a := m) hm).mono ?_
          rintro e w941 ⟨vm, r941, rfl, hb941⟩
          have hc941 := bel_trans bb941 hb941
          clear bb941 hb941
          have r808xxxxxxx := r808xxxxxx.below hc941
          clear r808xxxxxx
          have r878xx := r878x.below hc941
          clear r878x
          have Kbx := Kb.below hc941 Kb.lt
          clear Kb
          have HB1042 := Lib.hid (bel_trans HB980.out hc941)
          clear hc941 HB980
          go_wp2_with fail
          refine (rshlV r941 (by decide) (max e 0) (by omega) (by have := HE.out; omega) 264 (by have := HE.out; omega)).mono ?_
          rintro e w943 ⟨vsk, r943, rfl, hb943⟩
          have r808xxxxxxxx := r808xxxxxxx.below hb943
          clear r808xxxxxxx
          have r878xxx := r878xx.below hb943
          clear r878xx
          have r941x := r941.below hb943
          clear r941
          have Kbxx := Kbx.below hb943 Kbx.lt
          clear Kbx
          have HB1044 := Lib.hid (bel_trans HB1042.out hb943)
          clear hb943 HB1042
          go_wp2_with fail
          refine (rshlV r808xxxxxxxx (by decide) (max (-e) 0) (by omega) (by have := HE.out; omega) 264 (by have := HE.out; omega)).mono ?_
          rintro e w945 ⟨vsu, r945, rfl, hb945⟩
          have r808xxxxxxxxx := r808xxxxxxxx.below hb945
          clear r808xxxxxxxx
          have r878xxxx := r878xxx.below hb945
          clear r878xxx
          have r941xx := r941x.below hb945
          clear r941x
          have r943x := r943.below hb945
          clear r943
          have Kbxxx := Kbxx.below hb945 Kbxx.lt
          clear Kbxx
          have HB1046 := Lib.hid (bel_trans HB1044.out hb945)
          clear hb945 HB1044
          go_wp2_with fail
          refine (low_any s r943x r945 (by decide) (by decide)).mono ?_
          rintro e w947 ⟨x947, y947, z947, r947, rfl, hb947⟩
          change QC w947 x947 y947 z947 264 (dyR s m e) at r947
          have r808xxxxxxxxxx := r808xxxxxxxxx.below hb947
          clear r808xxxxxxxxx
          have r878xxxxx := r878xxxx.below hb947
          clear r878xxxx
          have r941xxx := r941xx.below hb947
          clear r941xx
          have r943xx := r943x.below hb947
          clear r943x
          have r945x := r945.below hb947
          clear r945
          have Kbxxxx := Kbxxx.below hb947 Kbxxx.lt
          clear Kbxxx
          have HB1048 := Lib.hid (bel_trans HB1046.out hb947)
          clear hb947 HB1046
          obtain ⟨sz, Az, nz, cz, Bz, mz, dz, rfl, rfl, rfl⟩ := r947.form
          have b947 := bel_alloc (Below.refl w947.heap.size w947) (.cells #[.bool sz, .slice Az nz cz, .slice Bz mz dz] 30)
          have Kz := Blk.new w947 30 #[.bool sz, .slice Az nz cz, .slice Bz mz dz]
          obtain ⟨v947, hv947⟩ : ∃ v, v = w947.alloc (.cells #[.bool sz, .slice Az nz cz, .slice Bz mz dz] 30) := ⟨_, rfl⟩
          obtain ⟨gz, hgz⟩ : ∃ g, g = w947.heap.size := ⟨_, rfl⟩
          have Gz := Lib.hid hgz
          have V947 := Lib.hid hv947
          rw [← hv947] at b947 Kz
          rw [← hgz] at Kz
          clear hv947 hgz
          have r808xxxxxxxxxxx := r808xxxxxxxxxx.below b947
          clear r808xxxxxxxxxx
          have r878xxxxxx := r878xxxxx.below b947
          clear r878xxxxx
          have r941xxxx := r941xxx.below b947
          clear r941xxx
          have r943xxx := r943xx.below b947
          clear r943xx
          have r945xx := r945x.below b947
          clear r945x
          have r947x := r947.below b947
          clear r947
          have Kbxxxxx := Kbxxxx.below b947 Kbxxxx.lt
          clear Kbxxxx
          have HB1049 := Lib.hid (bel_trans HB1048.out b947)
          clear b947 HB1048
          obtain ⟨q0b, q1b, q2b, -, -, -⟩ := Kbxxxxx.three
          rw [V947.out] at q0b q1b q2b
          obtain ⟨q0z, q1z, q2z, -, -, -⟩ := Kz.three
          rw [V947.out] at q0z q1z q2z
          go_wp2_with fail
          rw [← Gz.out, ← V947.out]
          clear Gz V947
          clear q0b q1b q2b
          clear q0z q1z q2z
          refine (isq_any r878xxxxxx r947x (by decide) (by decide)).mono ?_
          rintro e w950 ⟨rfl, hb950⟩
          have r808xxxxxxxxxxxx := r808xxxxxxxxxxx.below hb950
          clear r808xxxxxxxxxxx
          have r878xxxxxxx := r878xxxxxx.below hb950
          clear r878xxxxxx
          have r941xxxxx := r941xxxx.below hb950
          clear r941xxxx
          have r943xxxx := r943xxx.below hb950
          clear r943xxx
          have r945xxx := r945xx.below hb950
          clear r945xx
          have r947xx := r947x.below hb950
          clear r947x
          have Kbxxxxxx := Kbxxxxx.below hb950 Kbxxxxx.lt
          clear Kbxxxxx
          have Kzx := Kz.below hb950 Kz.lt
          clear Kz
          have HB1051 := Lib.hid (bel_trans HB1049.out hb950)
          clear hb950 HB1049
          go_wp2_with fail
          go_ret
          exact ⟨rfl, HB1051.out⟩
end Go.Proofs.YtaollppieonmbaaDoor
