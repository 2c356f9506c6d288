/-
  The walk of LexPlaces: whatever text is handed in, the law answers true. Conditions: the listed tables stand.
-/
import Derived.Test.YtkhddadhkkffnaaGreatDoorLpr5
import Derived.Deep.LoopGhost
namespace Go.Proofs.YtkhddadhkkffnaaGreatDoor
open Go.RowKit Go.Maps
set_option maxRecDepth 100000

set_option maxHeartbeats 40000000 in
theorem lplaces_walk (s : ByteArray) (w : World) (hE : Env9 w) :
    Calls Tryz.prog 5 #[.string s] w fun x w' => x = .returned (.bool true) ∧ Below w.heap.size w w' := by
  have WK := Lib.hid (works9 w hE)
  have HE := Lib.hid hE
  clear hE
  by_cases hbig : 1024 < s.size
  · have h' : (1024 : Int) < (s.size : Int) := by omega
    go_enter Tryz.func5, Tryz.ntmps5
    go_wp2_with fail
    refine WK.out.mono ?_
    rintro e w1 ⟨rfl, b1⟩
    have B1 := Lib.hid b1
    clear b1
    go_wp2_with fail
    go_ret
    exact ⟨rfl, B1.out⟩
  · have h' : ¬ (1024 : Int) < (s.size : Int) := by omega
    have sl : s.data.toList.length = s.size := (Lib.size_eq s).symm
    have LX := Lib.hid fun w hE => xLex_any s w hE
    by_cases hb : (lexV s.data.toList).2.1 = 0
    · obtain ⟨hR, h2⟩ := lexV_good (s := s.data.toList) (by omega) hb
      have G : Hid ((lexV s.data.toList).1 ≠ [] ∧ At9 s.data.toList (lexV s.data.toList).1 0 0 ∧ (lexV s.data.toList).1[(lexV s.data.toList).1.length - 1]? = some (enT s.size) ∧ (lexV s.data.toList).1.length ≤ 1025) := by
        have hg := gpN_add s.data.toList
        refine ⟨run_ne hR, at9_start hR, ?_, ?_⟩
        · rw [run_last hR, hg, sl]
        · have := run_len hR
          omega
      clear hR
      generalize hr : lexV s.data.toList = R at *
      obtain ⟨ts, e0, p0⟩ := R
      dsimp only at hb h2 G
      subst hb h2
      clear hr
      go_enter Tryz.func5, Tryz.ntmps5
      go_wp2_with fail
      refine WK.out.mono ?_
      rintro e w1 ⟨rfl, b1⟩
      have B1 := Lib.hid b1
      clear b1 WK
      go_wp2_with fail
      refine (LX.out _ (HE.out.below B1.out)).mono ?_
      rintro e w2 ⟨v, rfl, o2, b2⟩
      dsimp only at o2 ⊢
      obtain ⟨g, c, rfl, cl, cm, cb, T⟩ := own_five o2 G.out.1
      have B2 := Lib.hid (bel_trans B1.out b2)
      have TT := Lib.hid T
      have lg := T.1
      obtain ⟨gne, gat, glast, glen⟩ := G.out
      have A0 := Lib.hid gat
      have GL := Lib.hid glast
      have tl0 : 1 ≤ ts.length := by
        cases ts with
        | nil => exact absurd rfl gne
        | cons t ts => simp
      clear b2 o2 LX T cb G gat glast gne B1
      generalize hm : ts.length = m at *
      have HM := Lib.hid hm
      have SL := Lib.hid sl
      have MM := Lib.hid (And.intro tl0 (And.intro cl (And.intro cm glen)))
      have HS0 : Hid (s.size ≤ 1024) := by show _ ≤ _; omega
      clear hm sl tl0 cm glen hbig h'
      go_wp2_with fail
      go_loopg [10, 11] m (fun gk s10 s11 wr => ∃ i e : Nat, s10 = .int .i64 (e : Int) ∧ s11 = .int .i64 (i : Int) ∧ Hid (gk = m - i ∧ i ≤ m ∧ At9 s.data.toList ts i e) ∧ Hid (Below w2.heap.size w2 wr))
      case atStart => exact ⟨0, 0, rfl, rfl, ⟨rfl, Nat.zero_le _, A0.out⟩, Below.refl _ _⟩
      case round =>
        as_aux_lemma =>
          obtain ⟨i, e, rfl, rfl, HA, HB⟩ := hrel
          clear A0
          have HER := Lib.hid (HE.out.below (bel_trans B2.out HB.out))
          have TR := Lib.hid (TT.out.below HB.out lg)
          by_cases hlt : i < m
          · have hlt1 : (i : Int) < (m : Int) := by omega
            obtain ⟨l, a, hS, ha, he, hg, hor⟩ := at9_next HA.out.2.2 (by rw [HM.out]; exact hlt)
            rw [SL.out] at ha
            have HS0' := HS0.out
            have MM' := MM.out
            have dm : (s.extract e a).data.toList = (s.data.toList.drop e).take (a - e) := mid_str s e a
            have GX := Lib.hid fun w hE => xLex_any (s.extract e a) w hE
            rw [dm, lexV_gap (by rw [List.length_take, List.length_drop, SL.out]; omega) hg] at GX
            have i1 : (e : Int) ≤ (a : Int) := by omega
            have i2 : (a : Int) ≤ (s.size : Int) := by omega
            have i3 : ¬ (a : Int) < (e : Int) := by omega
            have i4 : ¬ (s.size : Int) < (a : Int) := by omega
            have iov : IntKind.i64.wrap ((i : Int) + 1) = ((i + 1 : Nat) : Int) := by rw [IntKind.wrap_i64]; omega
            have AV := Lib.hid (And.intro ha he)
            have HSS := Lib.hid hS
            rcases hor with ⟨hti, hlast, hend⟩ | ⟨hti, hnl, hne, hfi, hnext, hbad, t', ht', hp'⟩
            · as_aux_lemma =>
                rw [SL.out] at hend
                subst hend
                have HTI := Lib.hid hti
                obtain ⟨q0, q1, q2, -, -⟩ := TR.out.tok hti
                unfold enT at q0 q1 q2
                dsimp only at q0 q1 q2
                have ov : IntKind.i64.wrap ((m : Int) - 1) = (i : Int) := by rw [IntKind.wrap_i64]; have := HM.out; omega
                have ov0 : IntKind.i64.wrap (s.size : Int) = (s.size : Int) := by rw [IntKind.wrap_i64]; omega
                have HL := Lib.hid hlast
                clear hti hlast hS hg dm ha he i4 i2 hlt q2 HS0' MM' HSS cl
                go_wp2_with fail
                refine (GX.out _ HER.out).mono ?_
                rintro e1 w3 ⟨v3, rfl, o3, b3⟩
                obtain ⟨g3, c3, rfl, -, -, -, -⟩ := own_five o3 (by simp)
                have HB3 := Lib.hid (bel_trans HB.out b3)
                obtain ⟨p0, p1, p2, -, -⟩ := (TR.out.below b3 TR.out.1).tok HTI.out
                unfold enT at p0 p1 p2
                dsimp only at p0 p1 p2
                clear b3 o3 GX HB HER q0 q1
                dsimp only [List.length_cons, List.length_nil]
                go_wp2_with fail
                go_quiet (fail)
                go_wp2_with fail
                go_quiet (fail)
                go_wp2_with fail
                go_roundg (m - (i + 1))
                case measure => have := HA.out; omega
                case rel => exact ⟨i + 1, s.size, by go_num, by go_num, ⟨rfl, by have := HA.out; omega, .inl HL.out⟩, by first | exact bel_drewN HB3.out _ | exact HB3.out⟩
            · rcases fiT_text l a with ⟨n0, m0, tx0, fn0, hkd⟩ | ⟨tx1, kd1⟩
              · as_aux_lemma =>
                  have hfl := fiN_le l
                  have hsl : l.length = s.size - a := by rw [← hS, List.length_drop, SL.out]
                  rw [fn0] at hfl hnext hbad hp'
                  obtain ⟨b, hb'⟩ : ∃ b : Nat, b = a + nuL l := ⟨_, rfl⟩
                  obtain ⟨p', hpp⟩ : ∃ p' : Nat, p' = a + nuL l + gpN (l.drop (nuL l)) := ⟨_, rfl⟩
                  rw [← hpp] at hp'
                  obtain ⟨ii, hii⟩ : ∃ ii : Nat, ii = i + 1 := ⟨_, rfl⟩
                  have HTI := Lib.hid hti
                  obtain ⟨q0, q1, q2, -, -⟩ := TR.out.tok hti
                  rw [fiT_ps] at q1
                  rw [tx0] at q2
                  obtain ⟨m1, hm1⟩ : ∃ m1 : Nat, m1 + 1 = m := ⟨m - 1, by omega⟩
                  have ov : IntKind.i64.wrap ((m : Int) - 1) = (m1 : Int) := by rw [IntKind.wrap_i64]; omega
                  have im : ((i : Int) == (m1 : Int)) = false := by rw [beq_eq_false_iff_ne]; have := HM.out; omega
                  have ova : IntKind.i64.wrap (a : Int) = (a : Int) := by rw [IntKind.wrap_i64]; omega
                  have iov' : IntKind.i64.wrap ((i : Int) + 1) = (ii : Int) := by rw [IntKind.wrap_i64]; omega
                  have k0 : ((fiT l a).kd == 0) = false := by rw [beq_eq_false_iff_ne]; omega
                  have NB : Hid (b = a + nuL l) := hb'
                  have OUT : Hid (nuL l ≠ 0 ∧ (gp (l.drop (nuL l)) ≠ [] → fiE (gp (l.drop (nuL l))) = 0)) := ⟨n0, hbad⟩
                  have KK : Hid ((nuF l = true → ((fiT l a).kd == 3) = true) ∧ (((fiT l a).kd == 3) = true ∨ ((fiT l a).kd == 3) = false)) := by
                    refine ⟨fun h => ?_, by cases (fiT l a).kd == 3 <;> simp⟩
                    rcases hkd with ⟨h1, -⟩ | ⟨-, h2⟩
                    · rw [h1]; rfl
                    · rw [h] at h2; cases h2
                  have PP : Hid ((b : Int) ≤ (p' : Int) ∧ ¬ (m : Int) ≤ (ii : Int)) := ⟨by omega, by have := HM.out; omega⟩
                  have PG : Hid (gpN (l.drop (nuL l)) = 0 → p' = a + nuL l) := fun h => by rw [hpp, h]; rfl
                  have BB : Hid (a + 1 ≤ b ∧ b ≤ s.size) := ⟨by omega, by omega⟩
                  have NX : Hid (At9 s.data.toList ts ii b) := by show At9 _ _ _ _; rw [hb', hii]; exact hnext
                  have QQ : Hid (∀ w', Below wr.heap.size wr w' → w'.cell? ⟨g, i * 5, none⟩ = some (.int .u8 (fiT l a).kd) ∧ w'.cell? ⟨g, i * 5 + 1, none⟩ = some (.int .i64 (a : Int)) ∧ w'.cell? ⟨g, i * 5 + 2, none⟩ = some (.string ⟨#[]⟩) ∧ w'.cell? ⟨g, ii * 5 + 1, none⟩ = some (.int .i64 (p' : Int))) := by
                    intro w' hb''
                    obtain ⟨r0, r1, r2, -, -⟩ := (TR.out.below hb'' TR.out.1).tok hti
                    obtain ⟨-, u1, -, -, -⟩ := (TR.out.below hb'' TR.out.1).tok ht'
                    rw [fiT_ps] at r1
                    rw [tx0] at r2
                    rw [hp'] at u1
                    rw [hii]
                    exact ⟨r0, r1, r2, u1⟩
                  have II : Hid (ii = i + 1) := hii
                  have HK : Hid (((fiT l a).kd == 2) = true ∨ (((fiT l a).kd == 2) = false ∧ ((fiT l a).kd == 3) = true)) := by
                    rcases hkd with ⟨h1, -⟩ | ⟨h1, -⟩
                    · exact .inr (by rw [h1]; exact ⟨rfl, rfl⟩)
                    · exact .inl (by rw [h1]; rfl)
                  generalize (fiT l a).kd = k at *
                  clear hti hnl hne hfi hnext hbad ht' hp' tx0 hkd n0 m0 fn0 hfl hsl hb' hpp hii hS hg dm ha he hlt HS0' MM' cl hm1 iov q2
                  go_wp2_with fail
                  refine (GX.out _ HER.out).mono ?_
                  rintro e1 w3 ⟨v3, rfl, o3, b3⟩
                  obtain ⟨g3, c3, rfl, -, -, -, -⟩ := own_five o3 (by simp)
                  have HB3 := Lib.hid (bel_trans HB.out b3)
                  obtain ⟨p0, p1, p2, p3⟩ := QQ.out w3 b3
                  clear b3 o3 GX HB HER q0 q1 QQ
                  dsimp only [List.length_cons, List.length_nil]
                  go_wp2_with fail
                  go_quiet (fail)
                  go_upto_region 20 with fail
                  have p0' : (w3.drewN nq).cell? ⟨g, i * 5, none⟩ = some (.int .u8 k) := p0
                  have p1' : (w3.drewN nq).cell? ⟨g, i * 5 + 1, none⟩ = some (.int .i64 (a : Int)) := p1
                  have p3' : (w3.drewN nq).cell? ⟨g, ii * 5 + 1, none⟩ = some (.int .i64 (p' : Int)) := p3
                  have HB5 := Lib.hid (bel_drewN HB3.out nq)
                  generalize w3.drewN nq = w5 at *
                  clear p0 p1 p2 p3 HB3
                  go_cut [144] (fun s wx => s = .bool true ∧ wx = w5)
                  case first =>
                    as_aux_lemma =>
                      rcases HK.out with kk | ⟨kk, kk'⟩
                      · go_wp2_with fail
                        go_meet
                        exact ⟨rfl, rfl⟩
                      · go_wp2_with fail
                        go_meet
                        exact ⟨rfl, rfl⟩
                  case rest =>
                    as_aux_lemma =>
                      obtain ⟨rfl, rfl⟩ := hcut
                      clear HK k0 ov im
                      have BB' := BB.out
                      obtain ⟨a1, ha1⟩ : ∃ a1 : Nat, a1 = a + 1 := ⟨_, rfl⟩
                      have ova1 : IntKind.i64.wrap ((a : Int) + 1) = (a1 : Int) := by rw [IntKind.wrap_i64]; omega
                      have A1 := Lib.hid ha1
                      clear ha1 BB'
                      go_wp2_with fail
                      go_loopg [10] 1 (fun gk s10 wx => ∃ x : Nat, s10 = .int .i64 (x : Int) ∧ Hid (gk = a1 - x ∧ a ≤ x ∧ x ≤ a1) ∧ wx = wc)
                      case atStart => exact ⟨a, rfl, by have := A1.out; exact ⟨by omega, by omega, by omega⟩, rfl⟩
                      case round =>
                        as_aux_lemma =>
                          obtain ⟨x, rfl, HX, rfl⟩ := hrel
                          go_upto_region 21 with fail
                          go_cut [158] (fun s wx => s = .bool (decide (x < a1)) ∧ wx = wr)
                          case first =>
                            as_aux_lemma =>
                              by_cases hxa : x < a1
                              · have y1 : (x : Int) < (a1 : Int) := by omega
                                have y2 : (x : Int) < (s.size : Int) := by have := BB.out; have := A1.out; omega
                                have DX : Hid (decide (x < a1) = true) := decide_eq_true hxa
                                clear hxa HX
                                go_wp2_with fail
                                go_meet
                                exact ⟨by rw [DX.out], rfl⟩
                              · have y1 : ¬ (x : Int) < (a1 : Int) := by omega
                                have DX : Hid (decide (x < a1) = false) := decide_eq_false hxa
                                by_cases y2 : (x : Int) < (s.size : Int)
                                · clear hxa HX
                                  go_wp2_with fail
                                  go_meet
                                  exact ⟨by rw [DX.out], rfl⟩
                                · clear hxa HX
                                  go_wp2_with fail
                                  go_meet
                                  exact ⟨by rw [DX.out], rfl⟩
                          case rest =>
                            as_aux_lemma =>
                              by_cases hxa : x < a1
                              · rw [decide_eq_true hxa] at hcut
                                obtain ⟨rfl, rfl⟩ := hcut
                                have ovx : IntKind.i64.wrap ((x : Int) + 1) = ((x + 1 : Nat) : Int) := by rw [IntKind.wrap_i64]; have := BB.out; have := HS0.out; have := A1.out; omega
                                go_wp2_with fail
                                go_roundg (a1 - (x + 1))
                                case measure => have := HX.out; omega
                                case rel => exact ⟨x + 1, by go_num, ⟨rfl, by have := HX.out; omega, by have := HX.out; omega⟩, rfl⟩
                              · rw [decide_eq_false hxa] at hcut
                                obtain ⟨rfl, rfl⟩ := hcut
                                obtain rfl : x = a1 := by have := HX.out; omega
                                clear hxa HX ova1
                                go_wp2_with fail
                                go_loopg [10] (b - (a + 1)) (fun gk s10 wx => ∃ x : Nat, s10 = .int .i64 (x : Int) ∧ Hid (gk = b - x ∧ a + 1 ≤ x ∧ x ≤ b) ∧ wx = wc)
                                case atStart => exact ⟨x, rfl, by have := A1.out; have := BB.out; exact ⟨by omega, by omega, by omega⟩, rfl⟩
                                case round =>
                                  as_aux_lemma =>
                                    obtain ⟨x, rfl, HX, rfl⟩ := hrel
                                    go_upto_region 23 with fail
                                    go_cut [266] (fun s wx => s = .bool (decide (x < b)) ∧ wx = wr)
                                    case first =>
                                      as_aux_lemma =>
                                        change Code.wp Tryz.prog (Code.region 23 (((Tryz.f5.body).bind (regOps 23)).getD #[]) false) _ _ _
                                        have FACTS : Way s x i ii m g p' k wr (decide (x < b)) := by
                                          by_cases hxb : x < b
                                          · have hlb : x < a + nuL l := by rw [← NB.out]; exact hxb
                                            obtain ⟨hx, hor⟩ := scan_in HSS.out (by have := HX.out; omega) hlb
                                            have z0 : (x : Int) < (s.size : Int) := by omega
                                            rw [decide_eq_true hxb]
                                            have z3 : ¬ (m : Int) ≤ (ii : Int) := by have := PP.out.2; omega
                                            have z2 : (x : Int) < (p' : Int) := by have := PP.out.1; omega
                                            rcases hor with ⟨d1, d2⟩ | ⟨e46, hx1, d1, d2⟩ | ⟨hF, hee⟩ | ⟨hF, hss, hax, hx0, hee⟩
                                            · exact .w1 hx z0 d1 d2
                                            · obtain ⟨x1, hxx⟩ : ∃ x1, x1 = x + 1 := ⟨_, rfl⟩
                                              have hx1' : x1 < s.size := by omega
                                              have d1' : (48 : Int) ≤ ((s[x1]'hx1').toNat : Int) := by subst hxx; exact d1
                                              have d2' : ((s[x1]'hx1').toNat : Int) ≤ 57 := by subst hxx; exact d2
                                              have ov1 : IntKind.i64.wrap ((x : Int) + 1) = (x1 : Int) := by rw [IntKind.wrap_i64]; have := HS0.out; omega
                                              have z1 : (x1 : Int) < (s.size : Int) := by omega
                                              have e : ((s[x]'hx).toNat : Int) = 46 := byte_eq e46 (by decide)
                                              exact .w2 hx z0 e ov1 hx1' z1 d1' d2'
                                            · have kk : (k == 3) = true := (KK.out.1 hF)
                                              rcases hee with hee | hee
                                              · have e : ((s[x]'hx).toNat : Int) = 101 := byte_eq hee (by decide)
                                                exact .w3 hx z0 hlt1 p0' kk iov' p3' z3 z2 e
                                              · have e : ((s[x]'hx).toNat : Int) = 69 := byte_eq hee (by decide)
                                                exact .w4 hx z0 hlt1 p0' kk iov' p3' z3 z2 e
                                            · obtain ⟨x0, hxx⟩ : ∃ x0, x0 + 1 = x := ⟨x - 1, by omega⟩
                                              have hx0' : x0 < s.size := by omega
                                              have hee' : (s[x0]'hx0') = 101 ∨ (s[x0]'hx0') = 69 := by subst hxx; exact hee
                                              have ov0 : IntKind.i64.wrap ((x : Int) - 1) = (x0 : Int) := by rw [IntKind.wrap_i64]; have := HS0.out; omega
                                              have z1 : (x0 : Int) < (s.size : Int) := by omega
                                              have kk : (k == 3) = true := (KK.out.1 hF)
                                              clear hxx hlb
                                              rcases hss with hss | hss
                                              · have e : ((s[x]'hx).toNat : Int) = 43 := byte_eq hss (by decide)
                                                rcases hee' with hee' | hee'
                                                · have e0 : ((s[x0]'hx0').toNat : Int) = 101 := byte_eq hee' (by decide)
                                                  exact .w5 hx z0 hlt1 p0' kk iov' p3' z3 z2 hx0' ov0 z1 e e0
                                                · have e0 : ((s[x0]'hx0').toNat : Int) = 69 := byte_eq hee' (by decide)
                                                  exact .w6 hx z0 hlt1 p0' kk iov' p3' z3 z2 hx0' ov0 z1 e e0
                                              · have e : ((s[x]'hx).toNat : Int) = 45 := byte_eq hss (by decide)
                                                rcases hee' with hee' | hee'
                                                · have e0 : ((s[x0]'hx0').toNat : Int) = 101 := byte_eq hee' (by decide)
                                                  exact .w7 hx z0 hlt1 p0' kk iov' p3' z3 z2 hx0' ov0 z1 e e0
                                                · have e0 : ((s[x0]'hx0').toNat : Int) = 69 := byte_eq hee' (by decide)
                                                  exact .w8 hx z0 hlt1 p0' kk iov' p3' z3 z2 hx0' ov0 z1 e e0
                                          · rw [decide_eq_false hxb]
                                            have hxe : x = a + nuL l := by rw [← NB.out]; have := HX.out; omega
                                            by_cases hx : x < s.size
                                            · obtain ⟨o1, o2, o3, hx0, o4, o5⟩ := scan_out' HSS.out OUT.out.1 OUT.out.2 hxe hx
                                              have z0 : (x : Int) < (s.size : Int) := by omega
                                              obtain ⟨x1, hxx⟩ : ∃ x1, x1 = x + 1 := ⟨_, rfl⟩
                                              have ov1 : IntKind.i64.wrap ((x : Int) + 1) = (x1 : Int) := by rw [IntKind.wrap_i64]; have := HS0.out; omega
                                              obtain ⟨x0, hxy⟩ : ∃ x0, x0 + 1 = x := ⟨x - 1, by have := HX.out; omega⟩
                                              have hx0' : x0 < s.size := by omega
                                              have o4' : (s[x0]'hx0') ≠ 101 ∧ (s[x0]'hx0') ≠ 69 := by subst hxy; exact ⟨o4, o5⟩
                                              have e0a : (((s[x0]'hx0').toNat : Int) == 101) = false := byte_ne (n := 101) o4'.1 (by decide)
                                              have e0b : (((s[x0]'hx0').toNat : Int) == 69) = false := byte_ne (n := 69) o4'.2 (by decide)
                                              have ov0 : IntKind.i64.wrap ((x : Int) - 1) = (x0 : Int) := by rw [IntKind.wrap_i64]; have := HS0.out; omega
                                              have zz1 : (x0 : Int) < (s.size : Int) := by omega
                                              have z3 : ¬ (m : Int) ≤ (ii : Int) := by have := PP.out.2; omega
                                              have K3 := KK.out.2
                                              have PQ : Hid (((s[x]'hx) = 101 ∨ (s[x]'hx) = 69) → ¬ (x : Int) < (p' : Int)) := fun h => by have := PG.out (o3 h); have := NB.out; omega
                                              have HXX : Hid (x1 = x + 1) := hxx
                                              clear hxe hxy hxx o4 o5 o4' hxb
                                              by_cases h46 : (s[x]'hx) = 46
                                              · have e : ((s[x]'hx).toNat : Int) = 46 := byte_eq h46 (by decide)
                                                rcases o2 h46 with n1 | ⟨hx1, n1⟩
                                                · have z1 : ¬ (x1 : Int) < (s.size : Int) := by have := HXX.out; omega
                                                  rcases K3 with kk | kk
                                                  · exact .w10 hx z0 e ov1 z1 hlt1 p0' kk
                                                  · exact .w11 hx z0 e ov1 z1 hlt1 p0' kk
                                                · have hx1' : x1 < s.size := by have := HXX.out; omega
                                                  have z1 : (x1 : Int) < (s.size : Int) := by omega
                                                  have n1' : ¬ (48 : Int) ≤ ((s[x1]'hx1').toNat : Int) ∨ ((48 : Int) ≤ ((s[x1]'hx1').toNat : Int) ∧ ¬ ((s[x1]'hx1').toNat : Int) ≤ 57) := by have := HXX.out; subst this; omega
                                                  rcases n1' with n1 | ⟨n1, n2⟩
                                                  · rcases K3 with kk | kk
                                                    · exact .w12 hx z0 e ov1 hx1' z1 n1 hlt1 p0' kk
                                                    · exact .w13 hx z0 e ov1 hx1' z1 n1 hlt1 p0' kk
                                                  · rcases K3 with kk | kk
                                                    · exact .w14 hx z0 e ov1 hx1' z1 n1 n2 hlt1 p0' kk
                                                    · exact .w15 hx z0 e ov1 hx1' z1 n1 n2 hlt1 p0' kk
                                              · have n46 : (((s[x]'hx).toNat : Int) == 46) = false := byte_ne (n := 46) h46 (by decide)
                                                have o1' : ¬ (48 : Int) ≤ ((s[x]'hx).toNat : Int) ∨ ((48 : Int) ≤ ((s[x]'hx).toNat : Int) ∧ ¬ ((s[x]'hx).toNat : Int) ≤ 57) := by omega
                                                rcases K3 with kk | kk
                                                · by_cases h101 : (s[x]'hx) = 101
                                                  · have e : ((s[x]'hx).toNat : Int) = 101 := byte_eq h101 (by decide)
                                                    have z2 : ¬ (x : Int) < (p' : Int) := PQ.out (.inl h101)
                                                    exact .w16 hx z0 hlt1 p0' kk iov' p3' z3 z2 e
                                                  · by_cases h69 : (s[x]'hx) = 69
                                                    · have e : ((s[x]'hx).toNat : Int) = 69 := byte_eq h69 (by decide)
                                                      have z2 : ¬ (x : Int) < (p' : Int) := PQ.out (.inr h69)
                                                      exact .w17 hx z0 hlt1 p0' kk iov' p3' z3 z2 e
                                                    · by_cases h43 : (s[x]'hx) = 43
                                                      · have e : ((s[x]'hx).toNat : Int) = 43 := byte_eq h43 (by decide)
                                                        exact .w18 hx z0 hlt1 p0' kk hx0' ov0 zz1 e e0a e0b
                                                      · by_cases h45 : (s[x]'hx) = 45
                                                        · have e : ((s[x]'hx).toNat : Int) = 45 := byte_eq h45 (by decide)
                                                          exact .w19 hx z0 hlt1 p0' kk hx0' ov0 zz1 e e0a e0b
                                                        · have m1 : (((s[x]'hx).toNat : Int) == 101) = false := byte_ne (n := 101) h101 (by decide)
                                                          have m2 : (((s[x]'hx).toNat : Int) == 69) = false := byte_ne (n := 69) h69 (by decide)
                                                          have m3 : (((s[x]'hx).toNat : Int) == 43) = false := byte_ne (n := 43) h43 (by decide)
                                                          have m4 : (((s[x]'hx).toNat : Int) == 45) = false := byte_ne (n := 45) h45 (by decide)
                                                          rcases o1' with o1 | ⟨o1, o2⟩
                                                          · exact .w20 hx z0 hlt1 p0' kk o1 n46 m1 m2 m3 m4
                                                          · exact .w21 hx z0 hlt1 p0' kk o1 o2 n46 m1 m2 m3 m4
                                                · rcases o1' with o1 | ⟨o1, o2⟩
                                                  · exact .w22 hx z0 hlt1 p0' kk o1 n46
                                                  · exact .w23 hx z0 hlt1 p0' kk o1 o2 n46
                                            · have z0 : ¬ (x : Int) < (s.size : Int) := by omega
                                              clear hxe hxb
                                              exact .w9 z0
                                        refine r23_all FACTS ?_
                                        clear FACTS
                                        intros
                                        go_wp2_with fail
                                        go_meet
                                        exact ⟨rfl, rfl⟩
                                    case rest =>
                                      as_aux_lemma =>
                                        by_cases hxb : x < b
                                        · rw [decide_eq_true hxb] at hcut
                                          obtain ⟨rfl, rfl⟩ := hcut
                                          have ovx : IntKind.i64.wrap ((x : Int) + 1) = ((x + 1 : Nat) : Int) := by rw [IntKind.wrap_i64]; have := BB.out; have := HS0.out; omega
                                          go_wp2_with fail
                                          go_roundg (b - (x + 1))
                                          case measure => have := HX.out; omega
                                          case rel => exact ⟨x + 1, by go_num, ⟨rfl, by have := HX.out; omega, by have := HX.out; omega⟩, rfl⟩
                                        · rw [decide_eq_false hxb] at hcut
                                          obtain ⟨rfl, rfl⟩ := hcut
                                          obtain rfl : x = b := by have := HX.out; omega
                                          clear hxb HX
                                          go_wp2_with fail
                                          go_roundg (m - ii)
                                          case measure => have := HA.out; have := II.out; omega
                                          case rel => exact ⟨ii, x, by go_num, by go_num, ⟨rfl, by have := HA.out; have := II.out; omega, NX.out⟩, HB5.out⟩
              · as_aux_lemma =>
                  have hfl := fiN_le l
                  have hsl : l.length = s.size - a := by rw [← hS, List.length_drop, SL.out]
                  obtain ⟨y, hy⟩ : ∃ y : ByteArray, y = ⟨(fiT l a).tx.toArray⟩ := ⟨_, rfl⟩
                  obtain ⟨b, hb'⟩ : ∃ b : Nat, b = a + fiN l := ⟨_, rfl⟩
                  have dy : y.data.toList = l.take (fiN l) := by rw [hy, tx1]
                  have ys : y.size = fiN l := by rw [Lib.size_eq, dy, List.length_take]; omega
                  have EX : s.extract a b = y := by
                    rw [str_of (s := s.extract a b) (l := l.take (fiN l)) (by rw [mid_str, hS, hb', show a + fiN l - a = fiN l by omega]), hy, tx1]
                  have HTI := Lib.hid hti
                  obtain ⟨q0, q1, -, -, -⟩ := TR.out.tok hti
                  rw [fiT_ps] at q1
                  obtain ⟨m1, hm1⟩ : ∃ m1 : Nat, m1 + 1 = m := ⟨m - 1, by omega⟩
                  have ov : IntKind.i64.wrap ((m : Int) - 1) = (m1 : Int) := by rw [IntKind.wrap_i64]; omega
                  have im : ((i : Int) == (m1 : Int)) = false := by rw [beq_eq_false_iff_ne]; have := HM.out; omega
                  have ovb : IntKind.i64.wrap ((a : Int) + (y.size : Int)) = (b : Int) := by rw [IntKind.wrap_i64]; omega
                  have k0 : ((fiT l a).kd == 0) = false := by rw [beq_eq_false_iff_ne]; omega
                  have kn : ((fiT l a).kd != 0) = true := by rw [bne_iff_ne]; omega
                  have k2 : ((fiT l a).kd == 2) = false := by rw [beq_eq_false_iff_ne]; omega
                  have k3 : ((fiT l a).kd == 3) = false := by rw [beq_eq_false_iff_ne]; omega
                  have z1 : (a : Int) ≤ (b : Int) := by omega
                  have z2 : (b : Int) ≤ (s.size : Int) := by omega
                  have NX : Hid (At9 s.data.toList ts (i + 1) b) := by show At9 _ _ _ _; rw [hb']; exact hnext
                  have QQ : Hid (∀ w', Below wr.heap.size wr w' → w'.cell? ⟨g, i * 5, none⟩ = some (.int .u8 (fiT l a).kd) ∧ w'.cell? ⟨g, i * 5 + 1, none⟩ = some (.int .i64 (a : Int)) ∧ w'.cell? ⟨g, i * 5 + 2, none⟩ = some (.string y)) := by
                    intro w' hb''
                    obtain ⟨r0, r1, r2, -, -⟩ := (TR.out.below hb'' TR.out.1).tok hti
                    rw [fiT_ps] at r1
                    exact ⟨r0, r1, by rw [r2, hy]⟩
                  generalize (fiT l a).kd = k at *
                  clear hti hnl hne hfi hnext hbad ht' hp' tx1 kd1 hfl hsl hy hb' dy ys hS hg dm ha he hlt HS0' MM' HSS cl hm1
                  go_wp2_with fail
                  refine (GX.out _ HER.out).mono ?_
                  rintro e1 w3 ⟨v3, rfl, o3, b3⟩
                  obtain ⟨g3, c3, rfl, -, -, -, -⟩ := own_five o3 (by simp)
                  have HB3 := Lib.hid (bel_trans HB.out b3)
                  obtain ⟨p0, p1, p2⟩ := QQ.out w3 b3
                  clear b3 o3 GX HB HER q0 q1 QQ
                  dsimp only [List.length_cons, List.length_nil]
                  go_wp2_with fail
                  go_quiet (fail)
                  go_wp2_with fail
                  go_quiet (fail)
                  go_wp2_with fail
                  go_roundg (m - (i + 1))
                  case measure => have := HA.out; omega
                  case rel => exact ⟨i + 1, b, by go_num, by go_num, ⟨rfl, by have := HA.out; omega, NX.out⟩, by first | exact bel_drewN HB3.out _ | exact HB3.out⟩
          · as_aux_lemma =>
              have him : i = m := by have := HA.out; omega
              subst him
              obtain ⟨n1, hn1⟩ : ∃ n1 : Nat, n1 + 1 = i := ⟨i - 1, by have := MM.out; omega⟩
              have GL' : ts[n1]? = some (enT s.size) := by rw [← GL.out]; congr 1; omega
              obtain ⟨-, q1, -, -, -⟩ := TR.out.tok GL'
              unfold enT at q1
              dsimp only at q1
              have MM' := MM.out
              have ov : IntKind.i64.wrap ((i : Int) - 1) = (n1 : Int) := by rw [IntKind.wrap_i64]; omega
              have j0 : (0 : Int) < (i : Int) := by omega
              have j1 : (n1 : Int) < (i : Int) := by omega
              have HBR := Lib.hid (bel_trans B2.out HB.out)
              clear GL' MM' hn1 hlt HA HER TR HB B2
              go_wp2_with fail
              go_ret
              exact ⟨rfl, HBR.out⟩
    · as_aux_lemma =>
        obtain ⟨h1, h2, ts, h3⟩ := lexV_bad (s := s.data.toList) (by omega) hb
        rw [sl] at h2
        generalize hr : lexV s.data.toList = R at *
        obtain ⟨us, e0, p0⟩ := R
        dsimp only at hb h1 h2 h3
        subst h1
        have d2 : (s.extract 0 p0).data.toList = s.data.toList.take p0 := take_str s p0
        have L2 := Lib.hid fun w hE => xLex_any (s.extract 0 p0) w hE
        rw [d2, h3] at L2
        have hb' : (e0 != 0) = true := by rw [bne_iff_ne]; exact hb
        have z1 : (p0 : Int) < (s.size : Int) := by omega
        have z2 : (p0 : Int) ≤ (s.size : Int) := by omega
        have z3 : (0 : Int) ≤ (p0 : Int) := by omega
        have mx : max (p0 : Int) 0 = (p0 : Int) := by omega
        have mn : min (p0 : Int) (s.size : Int) = (p0 : Int) := by omega
        clear hr hb h2 h3 sl d2 hbig
        go_enter Tryz.func5, Tryz.ntmps5
        go_wp2_with fail
        refine WK.out.mono ?_
        rintro e w1 ⟨rfl, b1⟩
        have B1 := Lib.hid b1
        clear b1 WK
        go_wp2_with fail
        refine (LX.out _ (HE.out.below B1.out)).mono ?_
        rintro e w2 ⟨v, rfl, o2, b2⟩
        dsimp only at o2 ⊢
        obtain ⟨A, cc, rfl⟩ : ∃ (A : Option Addr) (cc : Nat), v = .slice A 0 cc := by
          rcases o2.2 with ⟨h, -⟩ | ⟨g, cap, cur, h, -⟩
          · exact ⟨none, 0, h⟩
          · exact ⟨_, cap, h⟩
        have B2 := Lib.hid (bel_trans B1.out b2)
        clear b2 o2 LX B1
        go_wp2_with fail
        refine (L2.out _ (HE.out.below B2.out)).mono ?_
        rintro e w3 ⟨v3, rfl, -, b3⟩
        have B3 := Lib.hid (bel_trans B2.out b3)
        clear b3 L2 B2
        dsimp only
        go_wp2_with fail
        go_ret
        exact ⟨rfl, B3.out⟩
end Go.Proofs.YtkhddadhkkffnaaGreatDoor
