/-
  The walk of LexBlanks: whatever text and whatever gap are handed in, the law answers true. Conditions: the listed tables stand.
-/
import Derived.Test.YtkhddadhkkffnaaGreatDoorLexq
import Derived.Test.YtkhddadhkkffnaaGreatDoorLexw
import Derived.Deep.LoopGhost
import Derived.Deep.DeepCutAuto
namespace Go.Proofs.YtkhddadhkkffnaaGreatDoor
open Go.RowKit Go.Maps
set_option maxRecDepth 100000

theorem and3_i64 (n : Int) : bits BinOp.and IntKind.i64 n 3 = n % 4 := by
  show IntKind.i64.wrap ((BitVec.ofInt 64 n &&& BitVec.ofInt 64 (3 : Int)).toNat : Int) = _
  rw [BitVec.toNat_and, BitVec.toNat_ofInt, show (BitVec.ofInt 64 (3 : Int)).toNat = 2 ^ 2 - 1 by decide, Nat.and_two_pow_sub_one_eq_mod, IntKind.wrap_i64]
  omega
/-- What a token of a text is like, and how long its word is. -/
structure TkOk (t : Tk) : Prop where
  kd : t.kd = 1 ∨ t.kd = 4 ∨ t.kd = 5 ∨ t.kd = 2 ∨ t.kd = 3 ∨ t.kd = 0
  nn : t.kd = 2 → -9223372036854775808 ≤ t.nn ∧ t.nn ≤ 9223372036854775807
  ff : t.kd = 3 → Word t.ff
  wd : ∀ x, IsWd t x → x.length ≤ 400
theorem enT_ok (a : Nat) : TkOk (enT a) := by
  refine ⟨by unfold enT; simp, by unfold enT; simp, by unfold enT; simp, fun x h => ?_⟩
  rcases h with ⟨e, -⟩ | ⟨e, -⟩ | ⟨e, -⟩ | ⟨-, e⟩
  · unfold enT at e; dsimp only at e; omega
  · unfold enT at e; dsimp only at e; omega
  · unfold enT at e; dsimp only at e; omega
  · rw [e]; simp
theorem dval_nn {l : List UInt8} (h : nuF l = false) (h2 : nuL l ≠ 0) : 0 ≤ dval (l.take (nuL l)) := by
  have hdg : nuL l = dgL l := by
    have h4 : nuL l = nuA l + exL (l.drop (nuA l)) := by
      unfold nuL at h2 ⊢
      split at h2
      · omega
      · rename_i h3
        rw [if_neg h3]
    unfold nuF at h
    rw [decide_eq_false_iff_not] at h
    unfold nuA at h4
    omega
  have : (l.take (nuL l)).all isDig = true := by
    rw [hdg]
    unfold dgL
    rw [take_tw]
    exact tw_all _ _
  exact (dval_bd this).1
theorem fiT_ok {l : List UInt8} {a : Int} (h0 : l ≠ []) (hg : gp l = l) (h : fiE l = 0) : TkOk (fiT l a) := by
  have wd : ∀ x, IsWd (fiT l a) x → x.length ≤ 400 := fun x hx => (wd_back h0 hg h hx).2.1
  by_cases h1 : nmL l = 0
  · by_cases h2 : nuL l = 0
    · have ht : fiT l a = ⟨5, a, l.take (siL l), 0, 0⟩ := by unfold fiT; rw [if_neg (by omega), if_neg (by omega)]
      rw [ht] at wd ⊢
      exact ⟨by simp, by simp, by simp, wd⟩
    · cases hF : nuF l
      · have ht : fiT l a = ⟨2, a, [], dval (l.take (nuL l)), 0⟩ := by unfold fiT; rw [if_neg (by omega), if_pos h2, hF]; rfl
        have hv : dval (l.take (nuL l)) ≤ 2147483647 := by
          unfold fiE at h
          rw [if_neg (by omega), if_pos h2, hF] at h
          split at h
          · omega
          · rw [if_neg (by decide)] at h
            split at h
            · assumption
            · omega
        have := dval_nn hF h2
        rw [ht] at wd ⊢
        exact ⟨by simp, fun _ => ⟨by dsimp only; omega, by dsimp only; omega⟩, by simp, wd⟩
      · have ht : fiT l a = ⟨3, a, [], 0, psF (l.take (nuL l))⟩ := by unfold fiT; rw [if_neg (by omega), if_pos h2, hF]; rfl
        have hv : psE (l.take (nuL l)) = 0 := by
          unfold fiE at h
          rw [if_neg (by omega), if_pos h2, hF] at h
          split at h
          · omega
          · rw [if_pos rfl] at h
            split at h
            · assumption
            · omega
        rw [ht] at wd ⊢
        exact ⟨by simp, by simp, fun _ => (psF_fin hv).1, wd⟩
  · have ht : fiT l a = ⟨if kwS.contains (l.take (nmL l)) then 4 else 1, a, l.take (nmL l), 0, 0⟩ := by unfold fiT; rw [if_pos h1]
    rw [ht] at wd ⊢
    generalize kwS.contains (l.take (nmL l)) = K at *
    cases K
    · exact ⟨by simp, by simp, by simp, wd⟩
    · exact ⟨by simp, by simp, by simp, wd⟩
theorem run_ok {l : List UInt8} {a : Nat} {ts : List Tk} (h : Run l a ts) : gp l = l → ∀ (i : Nat) (t : Tk), ts[i]? = some t → TkOk t := by
  induction h with
  | fin a =>
    intro _ i t ht
    cases i with
    | zero =>
      obtain rfl : enT a = t := by simpa using ht
      exact enT_ok a
    | succ i => simp at ht
  | tok l a ts h0 h1 r ih =>
    intro hg i t ht
    cases i with
    | zero =>
      obtain rfl : fiT l a = t := by simpa using ht
      exact fiT_ok h0 hg h1
    | succ i =>
      rw [List.getElem?_cons_succ] at ht
      exact ih (gp_idem _) i t ht
set_option maxHeartbeats 1600000 in
/-- A token, written. -/
theorem word9_any (t : Tk) (w : World) (hE : EnvOk w) (h : TkOk t) : Calls Tryz.prog 16 #[tkA t] w fun e w' => (∃ s : ByteArray, IsWd t s.data.toList ∧ e = .returned (.string s)) ∧ Below w.heap.size w w' := by
  obtain ⟨hk, hn, hf, -⟩ := h
  obtain ⟨k, p, x, n, f⟩ := t
  unfold tkA
  dsimp only at hk hn hf ⊢
  rcases hk with rfl | rfl | rfl | rfl | rfl | rfl
  · clear hn hf
    go_enter Tryz.func16, Tryz.ntmps16
    go_wp2_with fail
    go_ret
    exact ⟨⟨⟨x.toArray⟩, .inl ⟨.inl rfl, by simp⟩, rfl⟩, bel_alloc (Below.refl _ _) _⟩
  · clear hn hf
    go_enter Tryz.func16, Tryz.ntmps16
    go_wp2_with fail
    go_ret
    exact ⟨⟨⟨x.toArray⟩, .inl ⟨.inr (.inl rfl), by simp⟩, rfl⟩, bel_alloc (Below.refl _ _) _⟩
  · clear hn hf
    go_enter Tryz.func16, Tryz.ntmps16
    go_wp2_with fail
    go_ret
    exact ⟨⟨⟨x.toArray⟩, .inl ⟨.inr (.inr rfl), by simp⟩, rfl⟩, bel_alloc (Below.refl _ _) _⟩
  · have hn := hn rfl
    have IA := Lib.hid fun w => int_any n hn w
    clear hf hn
    go_enter Tryz.func16, Tryz.ntmps16
    go_wp2_with fail
    refine (IA.out _).mono ?_
    rintro e w1 ⟨x1, y1, z1, r1, rfl, hb1⟩
    have HB1 := Lib.hid (bel_trans (bel_alloc (Below.refl _ _) _) hb1)
    clear hb1 IA
    obtain ⟨s1, A1, n1, c1, B1, m1, d1, rfl, rfl, rfl⟩ := r1.form
    go_wp2_with fail
    refine (qtext_any r1.v (by decide) (by decide) (hE.tab.below HB1.out)).mono ?_
    rintro e w2 ⟨⟨s, hs, rfl⟩, hb2⟩
    have HB2 := Lib.hid (bel_trans HB1.out hb2)
    clear hb2
    go_wp2_with fail
    go_ret
    exact ⟨⟨s, .inr (.inl ⟨rfl, hs⟩), rfl⟩, HB2.out⟩
  · have hf := hf rfl
    have PA := Lib.hid fun w hE => print_any f hf w hE
    clear hn
    go_enter Tryz.func16, Tryz.ntmps16
    go_wp2_with fail
    refine (PA.out _ (hE.below (bel_alloc (Below.refl _ _) _))).mono ?_
    rintro e w1 ⟨rfl, hb1⟩
    have HB1 := Lib.hid (bel_trans (bel_alloc (Below.refl _ _) _) hb1)
    clear hb1 PA
    go_wp2_with fail
    go_ret
    exact ⟨⟨_, .inr (.inr (.inl ⟨rfl, by simp⟩)), rfl⟩, HB1.out⟩
  · clear hn hf
    go_enter Tryz.func16, Tryz.ntmps16
    go_wp2_with fail
    go_ret
    exact ⟨⟨⟨#[]⟩, .inr (.inr (.inr ⟨rfl, rfl⟩)), rfl⟩, bel_alloc (Below.refl _ _) _⟩
set_option maxHeartbeats 8000000 in
theorem lblanks_walk (s : ByteArray) (n : Int) (w : World) (_hn : -9223372036854775808 ≤ n ∧ n ≤ 9223372036854775807) (hE : Env9 w) :
    Calls Tryz.prog 4 #[.string s, .int .i64 n] w fun x w' => x = .returned (.bool true) ∧ Below w.heap.size w w' := by
  have WK := Lib.hid (works9 w hE)
  have HE := Lib.hid hE
  clear hE
  by_cases hbig : 1024 < s.size
  · have h' : (1024 : Int) < (s.size : Int) := by omega
    go_enter Tryz.func4, Tryz.ntmps4
    go_wp2_with fail
    refine WK.out.mono ?_
    rintro e w1 ⟨rfl, b1⟩
    have B1 := Lib.hid b1
    clear b1
    go_wp2_with fail
    go_ret
    exact ⟨rfl, B1.out⟩
  · have h' : ¬ (1024 : Int) < (s.size : Int) := by omega
    have sl : s.data.toList.length = s.size := (Lib.size_eq s).symm
    have LX := Lib.hid fun w hE => xLex_any s w hE
    by_cases hb : (lexV s.data.toList).2.1 = 0
    · obtain ⟨hR, h2⟩ := lexV_good (s := s.data.toList) (by omega) hb
      have G : Hid ((lexV s.data.toList).1 ≠ [] ∧ (lexV s.data.toList).1.length ≤ 1025 ∧ (∀ (i : Nat) (t : Tk), (lexV s.data.toList).1[i]? = some t → TkOk t)) := by
        have hg := gpN_add s.data.toList
        refine ⟨run_ne hR, ?_, run_ok hR (gp_idem _)⟩
        have := run_len hR
        omega
      clear hR
      have LV : Hid (lexV s.data.toList = ((lexV s.data.toList).1, 0, 0)) := by
        show _ = _
        generalize lexV s.data.toList = R at *
        obtain ⟨ts, e0, p0⟩ := R
        dsimp only at hb h2
        rw [hb, h2]
      have SL : Hid (s.data.toList.length ≤ 16384) := by show _ ≤ _; omega
      generalize hr : (lexV s.data.toList).1 = ts at *
      clear _hn
      have AN := and3_i64 n
      have N4 : Hid (n % 4 = 0 ∨ n % 4 = 1 ∨ n % 4 = 2 ∨ n % 4 = 3) := by show _ ∨ _; omega
      generalize n % 4 = n4 at *
      rw [LV.out] at LX
      go_enter Tryz.func4, Tryz.ntmps4
      go_wp2_with fail
      refine WK.out.mono ?_
      rintro e w1 ⟨rfl, b1⟩
      have B1 := Lib.hid b1
      clear b1 WK
      go_wp2_with fail
      refine (LX.out _ (HE.out.below B1.out)).mono ?_
      rintro e w2 ⟨v, rfl, o2, b2⟩
      dsimp only at o2 ⊢
      obtain ⟨g, c, rfl, cl, cm, cb, T⟩ := own_five o2 G.out.1
      have B2 := Lib.hid (bel_trans B1.out b2)
      have TT := Lib.hid T
      have lg := T.1
      have MM : Hid (ts.length ≤ 1025) := G.out.2.1
      have TO := Lib.hid G.out.2.2
      have G0 : Hid (1 ≤ ts.length) := by
        show _ ≤ _
        have := G.out.1
        cases ts with
        | nil => exact absurd rfl this
        | cons t ts => simp
      clear b2 o2 LX T cb G B1 hb h2 hr hbig h' sl
      generalize hm : ts.length = m at *
      have HM := Lib.hid hm
      clear hm
      have Y4 : ∃ y : ByteArray, Hid (GapOk y.data.toList) ∧ ((n4 = 0 ∧ y = ⟨#[32]⟩) ∨ (n4 = 1 ∧ y = ⟨#[9, 13, 10, 32]⟩) ∨ (n4 = 2 ∧ y = ⟨#[32, 47, 47, 32, 120, 32, 61, 32, 49, 59, 10]⟩) ∨ (n4 = 3 ∧ y = ⟨#[32, 47, 47, 10, 47, 47, 10]⟩)) := by
        rcases N4.out with rfl | rfl | rfl | rfl
        · exact ⟨⟨#[32]⟩, gap_0, .inl ⟨rfl, rfl⟩⟩
        · exact ⟨⟨#[9, 13, 10, 32]⟩, gap_1, .inr (.inl ⟨rfl, rfl⟩)⟩
        · exact ⟨⟨#[32, 47, 47, 32, 120, 32, 61, 32, 49, 59, 10]⟩, gap_2, .inr (.inr (.inl ⟨rfl, rfl⟩))⟩
        · exact ⟨⟨#[32, 47, 47, 10, 47, 47, 10]⟩, gap_3, .inr (.inr (.inr ⟨rfl, rfl⟩))⟩
      obtain ⟨y, GO, hor⟩ := Y4
      clear N4
      rcases hor with ⟨rfl, hy⟩ | ⟨rfl, hy⟩ | ⟨rfl, hy⟩ | ⟨rfl, hy⟩
      all_goals
        go_wp2_with fail
        rw [← hy]
        clear hy
        have ysz : Hid (y.size ≤ 16) := by show _ ≤ _; rw [Lib.size_eq]; exact GO.out.2.2
        clear AN
        go_loopg [10, 11] m (fun gk s10 s11 wr => ∃ (i : Nat) (z : ByteArray) (xs : List (List UInt8)), s10 = .string z ∧ s11 = .int .i64 (i : Int) ∧ Hid (gk = m - i ∧ i ≤ m ∧ xs.length = i ∧ z.data.toList = y.data.toList ++ glue y.data.toList xs ∧ Wds ts xs ∧ (∀ x ∈ xs, x.length ≤ 400)) ∧ Hid (Below w2.heap.size w2 wr))
        case atStart => exact ⟨0, y, [], rfl, rfl, ⟨rfl, Nat.zero_le _, rfl, by simp [glue], fun j t x h k => by simp at k, by simp⟩, Below.refl _ _⟩
        case round =>
          obtain ⟨i, z, xs, rfl, rfl, HA, HB⟩ := hrel
          have HER := Lib.hid (HE.out.below (bel_trans B2.out HB.out))
          have TR := Lib.hid (TT.out.below HB.out lg)
          have zsz : z.size ≤ 427000 := by
            have h1 := HA.out.2.2.2.1
            have h2 := glue_len GO.out xs HA.out.2.2.2.2.2
            have h3 := ysz.out
            have h4 := MM.out
            have h5 := HM.out
            have h6 := HA.out
            rw [Lib.size_eq, h1, List.length_append, ← Lib.size_eq]
            omega
          by_cases hlt : i < m
          · have hlt1 : (i : Int) < (m : Int) := by omega
            obtain ⟨t, ht⟩ : ∃ t, ts[i]? = some t := ⟨_, List.getElem?_eq_getElem (by rw [HM.out]; exact hlt)⟩
            have TK := Lib.hid (TO.out i t ht)
            have WD := Lib.hid fun w hE => word9_any t w hE TK.out
            unfold tkA at WD
            obtain ⟨q0, q1, q2, q3, q4⟩ := TR.out.tok ht
            have HT := Lib.hid ht
            have ov : IntKind.i64.wrap ((i : Int) + 1) = ((i + 1 : Nat) : Int) := by rw [IntKind.wrap_i64]; have := MM.out; have := HM.out; omega
            have hx0 := MM.out
            have ylt := ysz.out
            clear ht hlt
            go_wp2_with fail
            refine (WD.out _ HER.out.env).mono ?_
            rintro e w3 ⟨⟨x, hx, rfl⟩, hb3⟩
            have HX := Lib.hid hx
            have HB3 := Lib.hid (bel_trans HB.out hb3)
            have xsz : x.size ≤ 400 := by rw [Lib.size_eq]; exact TK.out.wd _ hx
            have zx : (z ++ x).size ≤ 428000 := by rw [ByteArray.size_append]; omega
            clear hb3 hx q0 q1 q2 q3 q4 WD HB HER
            go_wp2_with fail
            go_roundg (m - (i + 1))
            case measure => have := HA.out; omega
            case rel =>
              refine ⟨i + 1, z ++ x ++ y, xs ++ [x.data.toList], rfl, by go_num, ⟨rfl, ?_, ?_, ?_, ?_, ?_⟩, HB3⟩
              · have := HA.out; omega
              · rw [List.length_append, HA.out.2.2.1]; rfl
              · rw [glue_snoc]
                simp [HA.out.2.2.2.1]
              · exact wds_snoc HA.out.2.2.2.2.1 (by rw [HA.out.2.2.1]; exact HT.out) HX.out
              · intro u hu
                rcases List.mem_append.1 hu with h | h
                · exact HA.out.2.2.2.2.2 u h
                · obtain rfl : u = x.data.toList := by simpa using h
                  exact TK.out.wd _ HX.out
          · obtain rfl : i = m := by have := HA.out; omega
            have LZ := Lib.hid fun w hE => xLex_any z w hE
            have HMM := MM.out
            by_cases hz : 16384 < z.size
            · have e : lexV z.data.toList = ([], 91, 0) := by unfold lexV; rw [if_pos (by rw [← Lib.size_eq]; exact hz)]
              have hz1 : (16384 : Int) < (z.size : Int) := by omega
              rw [e] at LZ
              clear e hz hlt TR
              go_wp2_with fail
              refine (LZ.out _ HER.out).mono ?_
              rintro e w4 ⟨v4, rfl, o4, b4⟩
              have HB4 := Lib.hid (bel_trans B2.out (bel_trans HB.out b4))
              clear o4 b4 LZ HER HB
              dsimp only
              go_wp2_with fail
              go_ret
              exact ⟨rfl, HB4.out⟩
            · have hz1 : ¬ (16384 : Int) < (z.size : Int) := by omega
              obtain ⟨us, hu, al⟩ := relex_all GO.out SL.out LV.out (xs := xs) (by rw [HA.out.2.2.1, HM.out]) HA.out.2.2.2.2.1 (by rw [← HA.out.2.2.2.1, ← Lib.size_eq]; omega)
              rw [HA.out.2.2.2.1, hu] at LZ
              have hum : us.length = i := by rw [← al.1, HM.out]
              have une : us ≠ [] := fun e => by rw [e] at hum; have := HA.out; have := G0.out; simp at hum; omega
              have AL := Lib.hid al.2
              have HUM := Lib.hid hum
              clear hz hlt hu al
              go_wp2_with fail
              refine (LZ.out _ HER.out).mono ?_
              rintro e w4 ⟨v4, rfl, o4, b4⟩
              dsimp only at o4 ⊢
              obtain ⟨g4, c4, rfl, cl4, cm4, cb4, T4⟩ := own_five o4 une
              have TT4 := Lib.hid T4
              have lg4 := T4.1
              have TA4 := Lib.hid (TR.out.below b4 TR.out.1)
              have HB4 := Lib.hid (bel_trans HB.out b4)
              rw [hum]
              clear o4 b4 LZ HER HB TR T4 cb4 hum une
              go_wp2_with fail
              clear TT lg
              have B4' := Lib.hid (bel_trans B2.out HB4.out)
              have HMM2 := HMM
              go_loopg [15] i (fun gk s15 wx => ∃ k : Nat, s15 = .int .i64 (k : Int) ∧ Hid (gk = i - k ∧ k ≤ i) ∧ Hid (Below w4.heap.size w4 wx))
              case atStart => exact ⟨0, rfl, ⟨rfl, Nat.zero_le _⟩, Below.refl _ _⟩
              case round =>
                obtain ⟨k, rfl, HK, HBx⟩ := hrel
                by_cases hlt : k < i
                · have hlt1 : (k : Int) < (i : Int) := by omega
                  obtain ⟨t, ht⟩ : ∃ t, ts[k]? = some t := ⟨_, List.getElem?_eq_getElem (by rw [HM.out]; exact hlt)⟩
                  obtain ⟨u, hu⟩ : ∃ u, us[k]? = some u := ⟨_, List.getElem?_eq_getElem (by rw [HUM.out]; exact hlt)⟩
                  have E := AL.out k t u ht hu
                  obtain ⟨q0, q1, q2, q3, q4⟩ := (TA4.out.below HBx.out TA4.out.1).tok ht
                  obtain ⟨r0, r1, r2, r3, r4⟩ := (TT4.out.below HBx.out lg4).tok hu
                  obtain ⟨z0, z1, z2, z3, z4⟩ := u
                  obtain ⟨y0, y1, y2, y3, y4⟩ := t
                  injection E with e0 e1 e2 e3 e4
                  dsimp only at *
                  subst e0 e2 e3 e4
                  have ov : IntKind.i64.wrap ((k : Int) + 1) = ((k + 1 : Nat) : Int) := by rw [IntKind.wrap_i64]; omega
                  have BA : Below w4.heap.size w4 (wr.alloc (.cells #[.int .u8 z0, .int .i64 y1, .string ⟨z2.toArray⟩, .int .i32 z3, .int .u64 z4] 34)) := bel_alloc HBx.out _
                  obtain ⟨-, a1, -, -, -⟩ := (TT4.out.below BA lg4).tok hu
                  have BS : Below w4.heap.size w4 (wr.alloc (.cells #[.int .u8 z0, .int .i64 z1, .string ⟨z2.toArray⟩, .int .i32 z3, .int .u64 z4] 34)) := bel_alloc HBx.out _
                  obtain ⟨b0, b1, b2, b3, b4⟩ := (TT4.out.below BS lg4).tok hu
                  have x0 : (wr.alloc (.cells #[.int .u8 z0, .int .i64 z1, .string ⟨z2.toArray⟩, .int .i32 z3, .int .u64 z4] 34)).cell? ⟨wr.heap.size, 0, none⟩ = some (.int .u8 z0) := by simp [go_sem]
                  have x1 : (wr.alloc (.cells #[.int .u8 z0, .int .i64 z1, .string ⟨z2.toArray⟩, .int .i32 z3, .int .u64 z4] 34)).cell? ⟨wr.heap.size, 1, none⟩ = some (.int .i64 z1) := by simp [go_sem]
                  have x2 : (wr.alloc (.cells #[.int .u8 z0, .int .i64 z1, .string ⟨z2.toArray⟩, .int .i32 z3, .int .u64 z4] 34)).cell? ⟨wr.heap.size, 2, none⟩ = some (.string ⟨z2.toArray⟩) := by simp [go_sem]
                  have x3 : (wr.alloc (.cells #[.int .u8 z0, .int .i64 z1, .string ⟨z2.toArray⟩, .int .i32 z3, .int .u64 z4] 34)).cell? ⟨wr.heap.size, 3, none⟩ = some (.int .i32 z3) := by simp [go_sem]
                  have x4 : (wr.alloc (.cells #[.int .u8 z0, .int .i64 z1, .string ⟨z2.toArray⟩, .int .i32 z3, .int .u64 z4] 34)).cell? ⟨wr.heap.size, 4, none⟩ = some (.int .u64 z4) := by simp [go_sem]
                  have BSH := Lib.hid BS
                  clear ht hu e1 BA BS
                  go_upto_region 32 with fail
                  go_quiet (fail)
                  clear b0 b1 b2 b3 b4 x0 x1 x2 x3 x4 a1 q0 q1 q2 q3 q4 r0 r1 r2 r3 r4
                  go_wp2_with fail
                  go_roundg (i - (k + 1))
                  case measure => have := HK.out; omega
                  case rel => exact ⟨k + 1, by go_num, ⟨rfl, hlt⟩, by first | exact bel_drewN BSH.out _ | exact BSH.out⟩
                · obtain rfl : k = i := by have := HK.out; omega
                  have HBZ := Lib.hid (bel_trans B4'.out HBx.out)
                  clear hlt
                  go_wp2_with fail
                  go_ret
                  exact ⟨rfl, HBZ.out⟩
    · have hb' : ((lexV s.data.toList).2.1 != 0) = true := by rw [bne_iff_ne]; exact hb
      generalize (lexV s.data.toList) = R at *
      obtain ⟨us, e0, p0⟩ := R
      dsimp only at hb'
      clear hb
      go_enter Tryz.func4, Tryz.ntmps4
      go_wp2_with fail
      refine WK.out.mono ?_
      rintro e w1 ⟨rfl, b1⟩
      have B1 := Lib.hid b1
      clear b1 WK
      go_wp2_with fail
      refine (LX.out _ (HE.out.below B1.out)).mono ?_
      rintro e w2 ⟨v, rfl, o2, b2⟩
      dsimp only at o2 ⊢
      have B2 := Lib.hid (bel_trans B1.out b2)
      clear b2 o2 LX B1
      go_wp2_with fail
      go_ret
      exact ⟨rfl, B2.out⟩
end Go.Proofs.YtkhddadhkkffnaaGreatDoor
