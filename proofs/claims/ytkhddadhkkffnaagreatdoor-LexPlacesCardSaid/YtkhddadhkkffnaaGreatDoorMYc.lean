/-
  Contract of lex.Lex: the tokens of a text, in a row of its own, or what is wrong with it. Conditions: the listed tables stand; texts of at most 1048576 bytes.
  Contracts of lex.IsWord and IsName. Conditions: the listed tables stand; texts of at most 1048576 bytes.
  The examples of layer 9's law, and how tokens in a row are read. Conditions: the listed tables stand.
  Tokens one by one: where each lies, what stands between, which one is the last. No function of the program.
  The byte at a place of a number, and the byte behind it: the cases that the law's test parts. No function of the program.
-/
import Derived.Test.YtkhddadhkkffnaaGreatDoorMYb
import Derived.Test.YtkhddadhkkffnaaGreatDoorMR
namespace Go.Proofs.YtkhddadhkkffnaaGreatDoor
open Go.RowKit Go.Maps
set_option maxRecDepth 100000

/-- The cells of a token, of tokens. -/
def tkCs (t : Tk) : List Value := [.int .u8 t.kd, .int .i64 t.ps, .string ⟨t.tx.toArray⟩, .int .i32 t.nn, .int .u64 t.ff]
def tksC (ts : List Tk) : List Value := ts.flatMap tkCs
theorem tksC_snoc (ts : List Tk) (t : Tk) : tksC (ts ++ [t]) = tksC ts ++ tkCs t := by unfold tksC; simp
theorem tok_info : (Tryz.prog.info? 34).map (fun i => (i.zero, i.size, i.bytes)) = some (some (.agg #[.int .u8 0, .int .i64 0, .string ⟨#[]⟩, .int .i32 0, .int .u64 0]), 5, 48) := by kernel_rfl
theorem own_belowK {w w' : World} {B : Nat} {t : TypeId} {k : Nat} {v : Value} {n : Nat} {xs : List Value} (h : w.ownsRow B t k v n xs) (hb : Below w.heap.size w w') : w'.ownsRow B t k v n xs := by
  refine ⟨h.1, ?_⟩
  rcases h.2 with h2 | ⟨g, cap, cur, e, hB, hh, r⟩
  · exact .inl h2
  · have lt : g < w.heap.size := (Array.getElem?_eq_some_iff.1 hh).1
    exact .inr ⟨g, cap, cur, e, hB, (hb.block g lt).trans hh, r⟩
theorem own_mono' {B C : Nat} {t : TypeId} {k : Nat} {v : Value} {n : Nat} {xs : List Value} {w : World} (hBC : C ≤ B) (h : w.ownsRow B t k v n xs) : w.ownsRow C t k v n xs := by
  refine ⟨h.1, ?_⟩
  rcases h.2 with h2 | ⟨g, cap, cur, e, hb, r⟩
  · exact .inl h2
  · exact .inr ⟨g, cap, cur, e, Nat.le_trans hBC hb, r⟩
theorem own_grownK {B : Nat} {w wr w1 : World} {t : TypeId} {k : Nat} {v : Value} {n : Nat} {xs : List Value} (HB : Below B w wr) (hB : B ≤ wr.heap.size) (own : wr.ownsRow B t k v n xs) (hg : wr.grownBy w1 v.ownBlock) : Below B w w1 := by
  refine HB.grown hg hB fun g e => ?_
  rcases own.2 with ⟨rfl, _⟩ | ⟨g', cap, cur, rfl, hb, _⟩
  · cases e
  · simp [Value.ownBlock] at e
    omega
theorem blk_second (w : World) (o : Obj) (t : TypeId) (cs : Array Value) : Blk ((w.alloc o).alloc (.cells cs t)) (w.heap.size + 1) t cs := by
  have := Blk.new (w.alloc o) t cs
  rw [size_alloc] at this
  exact this
theorem Blk.news {w : World} {g : Nat} {t : TypeId} {cs : Array Value} (h : Blk w g t cs) : ∀ (j : Nat) (u : Value), cs.toList[j]? = some u → w.cell? ((⟨g, 0, none⟩ : Addr).add j) = some u := by
  intro j u hj
  have e : ((⟨g, 0, none⟩ : Addr).add j) = ⟨g, j, none⟩ := by
    simp [Addr.add]
    exact fun h => h.symm
  rw [e, h.cell j, ← Array.getElem?_toList]
  exact hj
/-- The tokens came back. -/
def RetLex (r : List Tk × Int × Nat) (w : World) (e : Ending) (w' : World) : Prop :=
  ∃ v : Value, e = .returned (.tuple #[v, .int .i64 r.2.1, .int .i64 r.2.2]) ∧ w'.ownsRow w.heap.size 34 5 v r.1.length (tksC r.1) ∧ Below w.heap.size w w'
/-- Tokens ahead of what follows. -/
def catR (ts : List Tk) (r : List Tk × Int × Nat) : List Tk × Int × Nat := if r.2.1 ≠ 0 then ([], r.2) else (ts ++ r.1, r.2)
theorem catR_nil (r : List Tk × Int × Nat) (h : r.2.1 ≠ 0 → r.1 = []) : catR [] r = r := by
  unfold catR
  obtain ⟨a, b⟩ := r
  split
  · rename_i h1; rw [show a = [] from h h1]
  · rfl
theorem catR_step (ts : List Tk) {l : List UInt8} {a : Nat} (h0 : l ≠ []) (h : fiE l = 0) : catR ts (lxF (l.length + 1) l a) = catR (ts ++ [fiT l a]) (lxF ((gp (l.drop (fiN l))).length + 1) (gp (l.drop (fiN l))) (a + fiN l + gpN (l.drop (fiN l)))) := by
  have hl := rest_len h
  rw [lxF_tok _ a h0 h, lxF_fuel l.length ((gp (l.drop (fiN l))).length + 1) _ _ (by omega) (by omega)]
  generalize lxF ((gp (l.drop (fiN l))).length + 1) (gp (l.drop (fiN l))) (a + fiN l + gpN (l.drop (fiN l))) = r
  dsimp only
  unfold catR
  by_cases h1 : r.2.1 = 0
  · rw [if_neg (c := r.2.1 ≠ 0) (by omega), if_neg (by dsimp only; omega), if_neg (by omega)]
    simp
  · rw [if_pos (c := r.2.1 ≠ 0) h1, if_pos (by exact h1), if_pos h1]
theorem lexV_cat {s : List UInt8} (h : s.length ≤ 16384) : lexV s = catR [] (lxF ((gp s).length + 1) (gp s) (gpN s)) := by
  have hg := gpN_add s
  have e : lexV s = lxF ((gp s).length + 1) (gp s) (gpN s) := by
    unfold lexV
    rw [if_neg (by omega), lxF_fuel (s.length + 1) ((gp s).length + 1) _ _ (by omega) (by omega)]
  rw [← e, catR_nil]
  intro h1
  exact (lexV_bad h h1).1
theorem drop_gp (s : List UInt8) (a n : Nat) {l : List UInt8} (h : s.drop a = l) : s.drop (a + n) = l.drop n := by rw [← h, List.drop_drop]
set_option maxHeartbeats 3200000 in
theorem xLex_any (s : ByteArray) (w : World) (hE : Env9 w) :
    Calls Tryz.prog 7 #[.string s] w (RetLex (lexV s.data.toList) w) := by
  by_cases hbig : 16384 < s.size
  · have h' : (16384 : Int) < (s.size : Int) := by omega
    have e : lexV s.data.toList = ([], 91, 0) := by unfold lexV; rw [if_pos (by rw [← Lib.size_eq]; exact hbig)]
    rw [e]
    go_enter Tryz.func7, Tryz.ntmps7
    go_wp2_with fail
    exact bodyPost_ret (by simp [results, Tryz.results7, go_sem]; (try rfl)) rfl ⟨_, rfl, ⟨rfl, .inl ⟨rfl, rfl⟩⟩, Below.refl _ _⟩
  · have h' : ¬ (16384 : Int) < (s.size : Int) := by omega
    obtain ⟨i0, hi, hz0, hz1, hz2⟩ := info_parts tok_info
    have HI := Lib.hid hi
    have HZ0 := Lib.hid hz0
    have HZ1 := Lib.hid hz1
    have HZ2 := Lib.hid hz2
    clear hi hz0 hz1 hz2
    have KW := Lib.hid (xKeywords_any w hE)
    have GP := Lib.hid fun w hE => xGap_any s w (by omega) hE
    have LV : Hid (lexV s.data.toList = catR [] (lxF ((gp s.data.toList).length + 1) (gp s.data.toList) (gpN s.data.toList))) := lexV_cat (by rw [← Lib.size_eq]; omega)
    have gl : gpN s.data.toList ≤ s.size := by rw [Lib.size_eq]; exact gpN_le _
    have gd : Hid (s.data.toList.drop (gpN s.data.toList) = gp s.data.toList) := gp_drop _
    have HE := Lib.hid hE
    clear hE hbig
    generalize gp s.data.toList = l0 at *
    generalize gpN s.data.toList = a0 at *
    generalize lexV s.data.toList = R at *
    go_enter Tryz.func7, Tryz.ntmps7
    go_wp2_with fail
    refine KW.out.mono ?_
    rintro e w1 ⟨g, rfl, hg, hK, hb1⟩
    have HK1 := Lib.hid hK
    have HE1 := Lib.hid (HE.out.below hb1)
    have HB1 := Lib.hid hb1
    have lg := hK.lt
    clear hb1 KW HE hK hg
    go_wp2_with fail
    refine (GP.out _ HE1.out.env).mono ?_
    rintro e w2 ⟨rfl, hb2⟩
    have HB2 := Lib.hid hb2
    clear hb2 GP
    go_wp2_with fail
    go_loopw [5, 7] (fun s5 s7 wr => ∃ (ts : List Tk) (l : List UInt8) (a : Nat), s7 = .int .i64 (a : Int) ∧ a ≤ s.size ∧ ts.length ≤ a ∧ Hid (s.data.toList.drop a = l) ∧ Hid (R = catR ts (lxF (l.length + 1) l a)) ∧ Hid (wr.ownsRow w1.heap.size 34 5 s5 ts.length (tksC ts)) ∧ Hid (Below w1.heap.size w1 wr)) (fun _ s7 _ => s.size - (intOf s7).toNat)
    case atStart => exact ⟨[], l0, a0, rfl, gl, Nat.zero_le _, gd, LV, ⟨rfl, .inl ⟨rfl, rfl⟩⟩, HB2⟩
    case round =>
      obtain ⟨ts, l, a, rfl, ha, ht, HL, HR, HO, HB⟩ := hrel
      clear LV gd gl HB2
      have al : l.length = s.size - a := by rw [← HL.out, List.length_drop, ← Lib.size_eq]
      have HEr := Lib.hid (HE1.out.below HB.out)
      by_cases hlt : a < s.size
      · have h1 : (a : Int) < (s.size : Int) := by omega
        have h2 : (a : Int) ≤ (s.size : Int) := by omega
        have hne : l ≠ [] := fun e => by rw [e] at al; simp at al; omega
        have dl : (s.extract a s.size).data.toList = l := by rw [drop_str]; exact HL.out
        have F := Lib.hid (xFirst_any (s.extract a s.size) g wr (by rw [Lib.size_eq, dl]; omega) HEr.out (HK1.out.below HB.out lg))
        rw [dl] at F
        by_cases he : fiE l = 0
        · have fp := fiN_pos he
          have fl := fiN_le l
          have gl2 := gpN_le (l.drop (fiN l))
          rw [List.length_drop] at gl2
          have HR2 : Hid (R = catR (ts ++ [fiT l a]) (lxF ((gp (l.drop (fiN l))).length + 1) (gp (l.drop (fiN l))) (a + fiN l + gpN (l.drop (fiN l))))) := HR.out.trans (catR_step ts hne he)
          have d2 : (s.extract (a + fiN l) s.size).data.toList = l.drop (fiN l) := by rw [drop_str]; exact drop_gp _ _ _ HL.out
          have GG := Lib.hid fun w hE => xGap_any (s.extract (a + fiN l) s.size) w (by rw [Lib.size_eq, d2, List.length_drop]; omega) hE
          rw [d2] at GG
          have HL2 : Hid (s.data.toList.drop (a + fiN l + gpN (l.drop (fiN l))) = gp (l.drop (fiN l))) := by
            show _ = _
            rw [drop_gp _ (a + fiN l) (gpN (l.drop (fiN l))) (drop_gp _ a (fiN l) HL.out)]
            exact gp_drop _
          have TA : Hid (tkCs (fiT l a) = [.int .u8 (fiT l 0).kd, .int .i64 (a : Int), .string ⟨(fiT l 0).tx.toArray⟩, .int .i32 (fiT l 0).nn, .int .u64 (fiT l 0).ff]) := by
            show _ = _
            unfold tkCs fiT
            split
            · rfl
            · split
              · split <;> rfl
              · rfl
          unfold RetFst at F
          rw [he] at F
          clear dl d2 HL HR he hne
          generalize gp (l.drop (fiN l)) = l2 at *
          generalize gpN (l.drop (fiN l)) = g2 at *
          generalize fiT l a = T at *
          generalize fiT l 0 = T0 at *
          generalize fiN l = n at *
          have ov1 : IntKind.i64.wrap ((a : Int) + n) = ((a + n : Nat) : Int) := by rw [IntKind.wrap_i64]; omega
          have ov2 : IntKind.i64.wrap (((a + n : Nat) : Int) + g2) = ((a + n + g2 : Nat) : Int) := by rw [IntKind.wrap_i64]; omega
          have h3 : (((a + n : Nat)) : Int) ≤ (s.size : Int) := by omega
          go_wp2_with fail
          refine F.out.mono ?_
          rintro e w3 ⟨⟨k, x, y, m, f⟩, n', rfl, hT, hb3⟩
          obtain ⟨rfl, rfl⟩ := hT (by first | rfl | trivial)
          have HB3 := Lib.hid (bel_trans HB.out hb3)
          have HO3 := Lib.hid (own_belowK HO.out hb3)
          clear hb3 F HB HO HEr hT
          unfold tkA
          dsimp only at TA ⊢
          go_wp2_with (at_builtin; refine wpList_append_own _ rfl _ _ 23 rfl w1.heap.size 34 i0 (.agg #[.int .u8 0, .int .i64 0, .string ⟨#[]⟩, .int .i32 0, .int .u64 0]) 5 48 Tryz.underlying23 HI.out HZ0.out HZ1.out HZ2.out rfl (by decide) _ _ _ rfl ((HO3.out.alloc _).alloc _) ⟨w3.heap.size + 1, 0, none⟩ 1 1 [.int .u8 k, .int .i64 (a : Int), .string ⟨y.toArray⟩, .int .i32 m, .int .u64 f] rfl rfl ?c1 ?c2 ?c3 ?c4 ?c5 ?_)
          case c1 => exact (blk_second w3 _ _ _).news
          case c2 => intro u hu; simp at hu; rcases hu with rfl | rfl | rfl | rfl | rfl <;> rfl
          case c3 => unfold maxLen; omega
          case c4 => omega
          case c5 => have := HB3.out.size; simp; omega
          intro v' w4 own' hgrow hnil
          clear hnil
          have HB4 := Lib.hid (own_grownK (bel_alloc (bel_alloc HB3.out _) _) (by have := HB3.out.size; simp; omega) ((HO3.out.alloc _).alloc _) hgrow)
          have HO4 : Hid (w4.ownsRow w1.heap.size 34 5 v' (ts ++ [T]).length (tksC (ts ++ [T]))) := by
            show World.ownsRow _ _ _ _ _ _ _
            rw [tksC_snoc, TA.out, List.length_append]
            exact own'
          have HE4 := Lib.hid (HE1.out.below HB4.out)
          have tl : (ts ++ [T]).length ≤ a + n + g2 := by rw [List.length_append, List.length_singleton]; omega
          clear own' hgrow HB3 HO3 TA
          go_wp2_with fail
          refine (GG.out _ HE4.out.env).mono ?_
          rintro e w5 ⟨rfl, hb5⟩
          have HB5 := Lib.hid (bel_trans HB4.out hb5)
          have HO5 := Lib.hid (own_belowK HO4.out hb5)
          clear hb5 GG HB4 HO4 HE4
          go_wp2_with fail
          go_roundw
          case rel => exact ⟨ts ++ [T], l2, a + n + g2, rfl, by omega, tl, HL2, HR2, HO5, HB5⟩
          case measure => simp [intOf]; omega
        · have e' : R = ([], fiE l, a) := by
            rw [HR.out, lxF_err _ _ hne he]
            unfold catR
            rw [if_pos (by exact he)]
          have HRR := Lib.hid e'
          have hne' : (fiE l != 0) = true := by simpa using he
          have HI2 := HB1
          clear dl HL HR he hne al e'
          unfold RetFst at F
          generalize fiE l = E at *
          go_wp2_with fail
          refine F.out.mono ?_
          rintro e w3 ⟨⟨k, x, y, m, f⟩, n', rfl, hT, hb3⟩
          have HB3 := Lib.hid (bel_trans HB1.out (bel_trans HB.out hb3))
          clear hb3 F HB HO HEr hT
          unfold tkA
          dsimp only
          go_wp2_with fail
          refine bodyPost_ret (by simp [results, Tryz.results7, go_sem]; (try rfl)) rfl ⟨.slice none 0 0, ?_, ⟨?_, .inl ⟨rfl, ?_⟩⟩, ?_⟩
          · rw [HRR.out]
          · rw [HRR.out]; rfl
          · rw [HRR.out]; rfl
          · exact bel_alloc HB3.out _
      · obtain rfl : a = s.size := by omega
        obtain rfl : l = [] := List.eq_nil_of_length_eq_zero (by omega)
        have e' : R = (ts ++ [enT s.size], 0, 0) := HR.out
        have HRR := Lib.hid e'
        clear HL HR e' al
        go_wp2_with (at_builtin; refine wpList_append_own _ rfl _ _ 23 rfl w1.heap.size 34 i0 (.agg #[.int .u8 0, .int .i64 0, .string ⟨#[]⟩, .int .i32 0, .int .u64 0]) 5 48 Tryz.underlying23 HI.out HZ0.out HZ1.out HZ2.out rfl (by decide) _ _ _ rfl (HO.out.alloc _) ⟨wr.heap.size, 0, none⟩ 1 1 [.int .u8 0, .int .i64 (s.size : Int), .string ⟨#[]⟩, .int .i32 0, .int .u64 0] rfl rfl ?c1 ?c2 ?c3 ?c4 ?c5 ?_)
        case c1 => exact (Blk.new wr _ _).news
        case c2 => intro u hu; simp at hu; rcases hu with rfl | rfl | rfl | rfl | rfl <;> rfl
        case c3 => unfold maxLen; omega
        case c4 => omega
        case c5 => have := HB.out.size; simp; omega
        intro v' w4 own' hgrow hnil
        clear hnil
        have HB4 := Lib.hid (bel_trans HB1.out (own_grownK (bel_alloc HB.out _) (by have := HB.out.size; simp; omega) (HO.out.alloc _) hgrow))
        have HO4 := Lib.hid (own_mono' HB1.out.size own')
        clear own' hgrow HB HO
        go_wp2_with fail
        refine bodyPost_ret (by simp [results, Tryz.results7, go_sem]; (try rfl)) rfl ⟨v', ?_, ?_, HB4.out⟩
        · rw [HRR.out]
          rfl
        · rw [HRR.out]
          show World.ownsRow _ _ _ _ _ (ts ++ [enT s.size]).length (tksC (ts ++ [enT s.size]))
          rw [tksC_snoc, List.length_append]
          exact HO4.out
end Go.Proofs.YtkhddadhkkffnaaGreatDoor
namespace Go.Proofs.YtkhddadhkkffnaaGreatDoor
open Go.RowKit Go.Maps
set_option maxRecDepth 100000

theorem xIsWord_any (s : ByteArray) (w : World) (hs : s.size ≤ 1048576) (hE : Env9 w) :
    Calls Tryz.prog 12 #[.string s] w fun e w' => e = .returned (.bool (kwS.contains s.data.toList)) ∧ Below w.heap.size w w' := by
  have KW := Lib.hid (xKeywords_any w hE)
  go_enter Tryz.func12, Tryz.ntmps12
  go_wp2_with fail
  refine KW.out.mono ?_
  rintro e w1 ⟨g, rfl, hg, hK, hb⟩
  have HB := Lib.hid hb
  obtain ⟨c, hc, hd⟩ := hK.look s hs
  have HD : Hid (decide (0 < c) = kwS.contains s.data.toList) := hd
  clear hb hK hd KW hE
  go_wp2_with fail
  go_ret
  exact ⟨ret_bool HD.out, HB.out⟩
def isnV (l : List UInt8) : Bool := !l.isEmpty && (decide (l.length ≤ 32) && (decide (nmL l = l.length) && !kwS.contains l))
theorem xIsName_any (s : ByteArray) (w : World) (hs : s.size ≤ 1048576) (hE : Env9 w) :
    Calls Tryz.prog 14 #[.string s] w fun e w' => e = .returned (.bool (isnV s.data.toList)) ∧ Below w.heap.size w w' := by
  have V : isnV s.data.toList = (!s.data.toList.isEmpty && (decide (s.data.toList.length ≤ 32) && (decide (nmL s.data.toList = s.data.toList.length) && !kwS.contains s.data.toList))) := rfl
  rw [← Lib.size_eq] at V
  have N := Lib.hid fun w => xName_any s w
  have W := Lib.hid fun w hE => xIsWord_any s w hs hE
  have hem : s.toList.isEmpty = s.data.toList.isEmpty := by rw [Lib.toList_data]
  generalize isnV s.data.toList = R at *
  generalize s.data.toList.isEmpty = em at *
  generalize kwS.contains s.data.toList = k at *
  cases em
  · by_cases h1 : s.size ≤ 32
    · have h1' : (s.size : Int) ≤ 32 := by omega
      rw [decide_eq_true h1] at V
      by_cases h2 : nmL s.data.toList = s.size
      · rw [decide_eq_true h2] at V
        rw [h2] at N
        have VV : Hid ((!k) = R) := by show _ = _; rw [V]; simp
        clear V h2
        go_enter Tryz.func14, Tryz.ntmps14
        go_wp2_with fail
        refine (N.out _).mono ?_
        rintro e w1 ⟨rfl, hb⟩
        have HB := Lib.hid hb
        have HE := Lib.hid (hE.below hb)
        clear hb hE N
        go_wp2_with fail
        refine (W.out _ HE.out).mono ?_
        rintro e w2 ⟨rfl, hb⟩
        have HB2 := Lib.hid (bel_trans HB.out hb)
        clear hb
        go_wp2_with fail
        go_ret
        exact ⟨ret_bool VV.out, HB2.out⟩
      · have h2' : ((nmL s.data.toList : Int) == (s.size : Int)) = false := by rw [beq_eq_false_iff_ne]; omega
        rw [decide_eq_false h2] at V
        have VV : Hid (false = R) := by show _ = _; rw [V]; simp
        clear V h2
        go_enter Tryz.func14, Tryz.ntmps14
        go_wp2_with fail
        refine (N.out _).mono ?_
        rintro e w1 ⟨rfl, hb⟩
        have HB := Lib.hid hb
        clear hb hE N
        go_wp2_with fail
        go_ret
        exact ⟨ret_bool VV.out, HB.out⟩
    · have h1' : ¬ (s.size : Int) ≤ 32 := by omega
      rw [decide_eq_false h1] at V
      have VV : Hid (false = R) := by show _ = _; rw [V]; simp
      clear V
      go_enter Tryz.func14, Tryz.ntmps14
      go_wp2_with fail
      go_ret
      exact ⟨ret_bool VV.out, Below.refl _ _⟩
  · have VV : Hid (false = R) := by show _ = _; rw [V]; simp
    clear V
    go_enter Tryz.func14, Tryz.ntmps14
    go_wp2_with fail
    go_ret
    exact ⟨ret_bool VV.out, Below.refl _ _⟩
end Go.Proofs.YtkhddadhkkffnaaGreatDoor
namespace Go.Proofs.YtkhddadhkkffnaaGreatDoor
open Go.RowKit Go.Maps
set_option maxRecDepth 100000

theorem tk_eq {a b : Tk} (h : a.kd = b.kd ∧ a.ps = b.ps ∧ a.tx = b.tx ∧ a.nn = b.nn ∧ a.ff = b.ff) : a = b := by
  obtain ⟨a1, a2, a3, a4, a5⟩ := a
  obtain ⟨b1, b2, b3, b4, b5⟩ := b
  obtain ⟨h1, h2, h3, h4, h5⟩ := h
  dsimp only at h1 h2 h3 h4 h5
  rw [h1, h2, h3, h4, h5]
instance tkDec : DecidableEq Tk := fun a b =>
  if h : a.kd = b.kd ∧ a.ps = b.ps ∧ a.tx = b.tx ∧ a.nn = b.nn ∧ a.ff = b.ff then .isTrue (tk_eq h) else .isFalse fun e => h (by subst e; exact ⟨rfl, rfl, rfl, rfl, rfl⟩)
/-- The cells of tokens lie in block g. -/
def TkR (w : World) (g : Nat) (ts : List Tk) : Prop := g < w.heap.size ∧ ∀ (j : Nat) (u : Value), (tksC ts)[j]? = some u → w.cell? ⟨g, j, none⟩ = some u
theorem TkR.below {w w' : World} {g B : Nat} {ts : List Tk} (h : TkR w g ts) (hb : Below B w w') (hg : g < B) : TkR w' g ts :=
  ⟨Nat.lt_of_lt_of_le h.1 hb.size, fun j u hj => (hb.cell (p := ⟨g, j, none⟩) hg).trans (h.2 j u hj)⟩
theorem own_five {w : World} {B : Nat} {v : Value} {ts : List Tk} (h : w.ownsRow B 34 5 v ts.length (tksC ts)) (hn : ts ≠ []) :
    ∃ g c, v = .slice (some ⟨g, 0, none⟩) ts.length c ∧ ts.length ≤ c ∧ c ≤ maxLen ∧ B ≤ g ∧ TkR w g ts := by
  rcases h.2 with ⟨-, h0⟩ | ⟨g, cap, cur, e, hB, hh, hc, hm, hs, ht⟩
  · exact absurd (List.eq_nil_of_length_eq_zero h0) hn
  · refine ⟨g, cap, e, hc, hm, hB, (Array.getElem?_eq_some_iff.1 hh).1, fun j u hj => ?_⟩
    rw [cell_of_row w g j cur 34 (0, 0) hh, ← Array.getElem?_toList]
    rw [← ht, List.getElem?_take] at hj
    split at hj
    · exact hj
    · cases hj
theorem lex_ex1 : lexV [120, 61, 49, 46, 46, 51, 59] = ([⟨1, 0, [120], 0, 0⟩, ⟨5, 1, [61], 0, 0⟩, ⟨2, 2, [], 1, 0⟩, ⟨5, 3, [46, 46], 0, 0⟩, ⟨2, 5, [], 3, 0⟩, ⟨5, 6, [59], 0, 0⟩, ⟨0, 7, [], 0, 0⟩], 0, 0) := by decide +kernel
theorem lex_ex2 : lexV [49, 46, 53, 101, 51] = ([⟨3, 0, [], 0, 4654311885213007872⟩, ⟨0, 5, [], 0, 0⟩], 0, 0) := by decide +kernel
theorem lex_ex3 : lexV [49, 46, 101] = ([], 90, 1) := by decide +kernel
theorem lex_ex4 : lexV [97, 47, 47, 98] = ([⟨1, 0, [97], 0, 0⟩, ⟨0, 4, [], 0, 0⟩], 0, 0) := by decide +kernel
set_option maxHeartbeats 3200000 in
theorem works9 (w : World) (hE : Env9 w) : Calls Tryz.prog 6 #[] w fun e w' => e = .returned (.bool true) ∧ Below w.heap.size w w' := by
  have A1 := Lib.hid fun w hE => xLex_any ⟨#[120, 61, 49, 46, 46, 51, 59]⟩ w hE
  have A2 := Lib.hid fun w hE => xLex_any ⟨#[49, 46, 53, 101, 51]⟩ w hE
  have A3 := Lib.hid fun w hE => xLex_any ⟨#[49, 46, 101]⟩ w hE
  have A4 := Lib.hid fun w hE => xLex_any ⟨#[97, 47, 47, 98]⟩ w hE
  have W1 := Lib.hid fun w hE => xIsWord_any ⟨#[115, 116, 101, 112]⟩ w (by decide) hE
  have N1 := Lib.hid fun w hE => xIsName_any ⟨#[115, 116, 101, 112]⟩ w (by decide) hE
  have N2 := Lib.hid fun w hE => xIsName_any ⟨#[115, 116, 101, 112, 115]⟩ w (by decide) hE
  change Hid (∀ w, Env9 w → Calls Tryz.prog 12 #[.string ⟨#[115, 116, 101, 112]⟩] w fun e w' => e = .returned (.bool (kwS.contains [115, 116, 101, 112])) ∧ Below w.heap.size w w') at W1
  change Hid (∀ w, Env9 w → Calls Tryz.prog 14 #[.string ⟨#[115, 116, 101, 112]⟩] w fun e w' => e = .returned (.bool (isnV [115, 116, 101, 112])) ∧ Below w.heap.size w w') at N1
  change Hid (∀ w, Env9 w → Calls Tryz.prog 14 #[.string ⟨#[115, 116, 101, 112, 115]⟩] w fun e w' => e = .returned (.bool (isnV [115, 116, 101, 112, 115])) ∧ Below w.heap.size w w') at N2
  rw [show kwS.contains [115, 116, 101, 112] = true by decide +kernel] at W1
  rw [show isnV [115, 116, 101, 112] = false by decide +kernel] at N1
  rw [show isnV [115, 116, 101, 112, 115] = true by decide +kernel] at N2
  have HE := Lib.hid hE
  clear hE
  go_enter Tryz.func6, Tryz.ntmps6
  go_wp2_with fail
  refine (A1.out _ HE.out).mono ?_
  rintro e w1 ⟨v1, rfl, o1, b1⟩
  rw [lex_ex1] at o1 ⊢
  obtain ⟨g1, c1, rfl, cl1, cm1, cb1, T1⟩ := own_five o1 (by simp)
  have B1 := Lib.hid b1
  clear b1 o1 A1
  dsimp only [List.length_cons, List.length_nil]
  go_wp2_with fail
  refine (A2.out _ (HE.out.below B1.out)).mono ?_
  rintro e w2 ⟨v2, rfl, o2, b2⟩
  rw [lex_ex2] at o2 ⊢
  obtain ⟨g2, c2, rfl, cl2, cm2, cb2, T2⟩ := own_five o2 (by simp)
  replace T1 := T1.below b2 T1.1
  have B2 := Lib.hid (bel_trans B1.out b2)
  clear b2 o2 A2 B1
  dsimp only [List.length_cons, List.length_nil]
  go_wp2_with fail
  refine (A3.out _ (HE.out.below B2.out)).mono ?_
  rintro e w3 ⟨v3, rfl, o3, b3⟩
  rw [lex_ex3] at o3 ⊢
  replace T1 := T1.below b3 T1.1
  replace T2 := T2.below b3 T2.1
  have B3 := Lib.hid (bel_trans B2.out b3)
  clear b3 o3 A3 B2
  dsimp only
  go_wp2_with fail
  refine (A4.out _ (HE.out.below B3.out)).mono ?_
  rintro e w4 ⟨v4, rfl, o4, b4⟩
  rw [lex_ex4] at o4 ⊢
  obtain ⟨g4, c4, rfl, cl4, cm4, cb4, T4⟩ := own_five o4 (by simp)
  replace T1 := T1.below b4 T1.1
  replace T2 := T2.below b4 T2.1
  have B4 := Lib.hid (bel_trans B3.out b4)
  clear b4 o4 A4 B3
  dsimp only [List.length_cons, List.length_nil]
  have q1 : w4.cell? ⟨g1, 0, none⟩ = some (.int .u8 1) := T1.2 0 _ rfl
  have q2 : w4.cell? ⟨g1, 2, none⟩ = some (.string ⟨#[120]⟩) := T1.2 2 _ rfl
  have q3 : w4.cell? ⟨g1, 17, none⟩ = some (.string ⟨#[46, 46]⟩) := T1.2 17 _ rfl
  have q4 : w4.cell? ⟨g1, 23, none⟩ = some (.int .i32 3) := T1.2 23 _ rfl
  have q5 : w4.cell? ⟨g1, 30, none⟩ = some (.int .u8 0) := T1.2 30 _ rfl
  have q6 : w4.cell? ⟨g1, 31, none⟩ = some (.int .i64 7) := T1.2 31 _ rfl
  have q7 : w4.cell? ⟨g2, 4, none⟩ = some (.int .u64 4654311885213007872) := T2.2 4 _ rfl
  have q8 : w4.cell? ⟨g4, 6, none⟩ = some (.int .i64 4) := T4.2 6 _ rfl
  clear T1 T2 T4 cl1 cm1 cb1 cl2 cm2 cb2 cl4 cm4 cb4
  go_wp2_with fail
  refine (W1.out _ (HE.out.below B4.out)).mono ?_
  rintro e w5 ⟨rfl, b5⟩
  have B5 := Lib.hid (bel_trans B4.out b5)
  clear b5 B4 q1 q2 q3 q4 q5 q6 q7 q8 W1
  go_wp2_with fail
  refine (N1.out _ (HE.out.below B5.out)).mono ?_
  rintro e w6 ⟨rfl, b6⟩
  have B6 := Lib.hid (bel_trans B5.out b6)
  clear b6 B5 N1
  go_wp2_with fail
  refine (N2.out _ (HE.out.below B6.out)).mono ?_
  rintro e w7 ⟨rfl, b7⟩
  have B7 := Lib.hid (bel_trans B6.out b7)
  clear b7 B6 N2
  go_wp2_with fail
  go_ret
  exact ⟨rfl, B7.out⟩
end Go.Proofs.YtkhddadhkkffnaaGreatDoor
namespace Go.Proofs.YtkhddadhkkffnaaGreatDoor
open Go.RowKit Go.Maps
set_option maxRecDepth 100000

theorem tks_at : ∀ (ts : List Tk) (i : Nat) (t : Tk), ts[i]? = some t → ∀ (j : Nat) (u : Value), (tkCs t)[j]? = some u → (tksC ts)[i * 5 + j]? = some u
  | [], i, t, h, _, _, _ => by simp at h
  | t0 :: ts, 0, t, h, j, u, hj => by
    obtain rfl : t0 = t := by simpa using h
    have : j < (tkCs t0).length := (List.getElem?_eq_some_iff.1 hj).1
    show (tkCs t0 ++ tksC ts)[0 * 5 + j]? = _
    rw [Nat.zero_mul, Nat.zero_add, List.getElem?_append_left this]
    exact hj
  | t0 :: ts, i + 1, t, h, j, u, hj => by
    show (tkCs t0 ++ tksC ts)[(i + 1) * 5 + j]? = _
    have l5 : (tkCs t0).length = 5 := rfl
    rw [List.getElem?_append_right (by omega), l5, show (i + 1) * 5 + j - 5 = i * 5 + j by omega]
    exact tks_at ts i t (by simpa using h) j u hj
/-- A token's five cells. -/
theorem TkR.tok {w : World} {g : Nat} {ts : List Tk} (h : TkR w g ts) {i : Nat} {t : Tk} (hi : ts[i]? = some t) :
    w.cell? ⟨g, i * 5, none⟩ = some (.int .u8 t.kd) ∧ w.cell? ⟨g, i * 5 + 1, none⟩ = some (.int .i64 t.ps) ∧ w.cell? ⟨g, i * 5 + 2, none⟩ = some (.string ⟨t.tx.toArray⟩) ∧
    w.cell? ⟨g, i * 5 + 3, none⟩ = some (.int .i32 t.nn) ∧ w.cell? ⟨g, i * 5 + 4, none⟩ = some (.int .u64 t.ff) :=
  ⟨h.2 _ _ (tks_at ts i t hi 0 _ rfl), h.2 _ _ (tks_at ts i t hi 1 _ rfl), h.2 _ _ (tks_at ts i t hi 2 _ rfl), h.2 _ _ (tks_at ts i t hi 3 _ rfl), h.2 _ _ (tks_at ts i t hi 4 _ rfl)⟩
/-- The last token is the end, and stands at the text's end. -/
theorem run_last {l : List UInt8} {a : Nat} {ts : List Tk} (h : Run l a ts) : ts[ts.length - 1]? = some (enT (a + l.length)) := by
  induction h with
  | fin a => rfl
  | tok l a ts h0 h1 r ih =>
    have hn := run_ne r
    have hg := gpN_add (l.drop (fiN l))
    have hl := fiN_le l
    rw [List.length_drop] at hg
    rw [show a + fiN l + gpN (l.drop (fiN l)) + (gp (l.drop (fiN l))).length = a + l.length by omega] at ih
    have : 1 ≤ ts.length := by
      cases ts with
      | nil => exact absurd rfl hn
      | cons t ts => simp
    rw [List.length_cons, show ts.length + 1 - 1 = (ts.length - 1) + 1 by omega, List.getElem?_cons_succ]
    exact ih
theorem run_head {l : List UInt8} {a : Nat} {ts : List Tk} (h : Run l a ts) : (l ≠ [] → fiE l = 0) ∧ ∃ t, ts[0]? = some t ∧ t.ps = (a : Int) := by
  cases h with
  | fin a => exact ⟨fun h => absurd rfl h, _, rfl, rfl⟩
  | tok l a ts h0 h1 r => exact ⟨fun _ => h1, _, rfl, fiT_ps _ _⟩
/-- Where the walk over tokens stands: behind i tokens, the last of which ended at e. -/
def At9 (S : List UInt8) (ts : List Tk) (i e : Nat) : Prop :=
  i = ts.length ∨ ∃ l a, i < ts.length ∧ Run l a (ts.drop i) ∧ S.drop a = l ∧ a ≤ S.length ∧ e ≤ a ∧ gp ((S.drop e).take (a - e)) = []
theorem at9_start {S : List UInt8} {ts : List Tk} (h : Run (gp S) (gpN S) ts) : At9 S ts 0 0 := by
  have hn := run_ne h
  refine .inr ⟨gp S, gpN S, ?_, h, gp_drop S, gpN_le S, Nat.zero_le _, ?_⟩
  · cases ts with
    | nil => exact absurd rfl hn
    | cons t ts => simp
  · rw [List.drop_zero, Nat.sub_zero]
    exact gp_whole S
/-- What the next token is: the end, or a token of the text, behind which the next one stands. -/
theorem at9_next {S : List UInt8} {ts : List Tk} {i e : Nat} (h : At9 S ts i e) (hi : i < ts.length) : ∃ l a, S.drop a = l ∧ a ≤ S.length ∧ e ≤ a ∧ gp ((S.drop e).take (a - e)) = [] ∧
    ((ts[i]? = some (enT a) ∧ i + 1 = ts.length ∧ a = S.length) ∨
     (ts[i]? = some (fiT l a) ∧ i + 1 < ts.length ∧ l ≠ [] ∧ fiE l = 0 ∧ At9 S ts (i + 1) (a + fiN l) ∧ (gp (l.drop (fiN l)) ≠ [] → fiE (gp (l.drop (fiN l))) = 0) ∧ ∃ t, ts[i + 1]? = some t ∧ t.ps = ((a + fiN l + gpN (l.drop (fiN l)) : Nat) : Int))) := by
  rcases h with h | ⟨l, a, -, r, hS, ha, he, hg⟩
  · omega
  · refine ⟨l, a, hS, ha, he, hg, ?_⟩
    have hd : ∀ j, (ts.drop i)[j]? = ts[i + j]? := fun j => List.getElem?_drop
    have dl : (ts.drop i).length = ts.length - i := List.length_drop
    generalize hr : ts.drop i = rs at *
    cases r with
    | fin a =>
      refine .inl ⟨by rw [← Nat.add_zero i, ← hd 0]; rfl, by simp at dl; omega, ?_⟩
      have := congrArg List.length hS
      rw [List.length_drop, List.length_nil] at this
      omega
    | tok l a us h0 h1 r' =>
      have hn := run_ne r'
      have ln : 1 ≤ us.length := by
        cases us with
        | nil => exact absurd rfl hn
        | cons t ts => simp
      rw [List.length_cons] at dl
      have hus : ts.drop (i + 1) = us := by rw [← List.drop_drop, hr]; rfl
      have hfl := fiN_le l
      have hgl := gpN_add (l.drop (fiN l))
      rw [List.length_drop] at hgl
      have hSl : l.length = S.length - a := by rw [← hS, List.length_drop]
      have hlp : 1 ≤ l.length := by
        cases l with
        | nil => exact absurd rfl h0
        | cons b r => simp
      refine .inr ⟨by rw [← Nat.add_zero i, ← hd 0]; rfl, by omega, h0, h1, .inr ⟨gp (l.drop (fiN l)), a + fiN l + gpN (l.drop (fiN l)), by omega, by rw [hus]; exact r', ?_, by omega, by omega, ?_⟩, ?_, ?_⟩
      · rw [drop_gp S (a + fiN l) _ (drop_gp S a _ hS)]
        exact gp_drop _
      · rw [drop_gp S a _ hS, show a + fiN l + gpN (l.drop (fiN l)) - (a + fiN l) = gpN (l.drop (fiN l)) by omega]
        exact gp_whole _
      · exact (run_head r').1
      · have hu : ts[i + 1]? = us[0]? := by rw [← hus, List.getElem?_drop]
        rw [hu]
        exact (run_head r').2
theorem mid_str (s : ByteArray) (e a : Nat) : (s.extract e a).data.toList = (s.data.toList.drop e).take (a - e) := by
  have := Lib.extract_toList s e a
  rw [Lib.toList_data] at this
  exact this
end Go.Proofs.YtkhddadhkkffnaaGreatDoor
namespace Go.Proofs.YtkhddadhkkffnaaGreatDoor
open Go.RowKit Go.Maps
set_option maxRecDepth 100000

theorem byte_of {S : List UInt8} {a j : Nat} {l : List UInt8} (hS : S.drop a = l) : l[j]? = S[a + j]? := by rw [← hS, List.getElem?_drop]
theorem str_byte {s : ByteArray} {x : Nat} {b : UInt8} (h : s.data.toList[x]? = some b) : ∃ hx : x < s.size, s[x] = b := by
  by_cases hx : x < s.size
  · refine ⟨hx, ?_⟩
    rw [at_byte s x hx] at h
    exact Option.some.inj h
  · exact (at_end s x hx b h).elim
theorem dig_bd {b : UInt8} (h : isDig b = true) : (48 : Int) ≤ (b.toNat : Int) ∧ (b.toNat : Int) ≤ 57 := by
  unfold isDig at h
  simp only [Bool.and_eq_true, decide_eq_true_eq] at h
  omega
theorem dig_nbd {b : UInt8} (h : isDig b = false) : ¬ (48 : Int) ≤ (b.toNat : Int) ∨ ¬ (b.toNat : Int) ≤ 57 := by
  unfold isDig at h
  simp only [Bool.and_eq_false_iff, decide_eq_false_iff_not] at h
  omega
/-- Within a number. -/
theorem scan_in {s : ByteArray} {l : List UInt8} {a x : Nat} (hS : s.data.toList.drop a = l) (h0 : a ≤ x) (h1 : x < a + nuL l) : ∃ hx : x < s.size,
    ((48 : Int) ≤ (s[x].toNat : Int) ∧ (s[x].toNat : Int) ≤ 57) ∨
    (s[x] = 46 ∧ ∃ hx1 : x + 1 < s.size, (48 : Int) ≤ (s[x + 1].toNat : Int) ∧ (s[x + 1].toNat : Int) ≤ 57) ∨
    (nuF l = true ∧ (s[x] = 101 ∨ s[x] = 69)) ∨
    (nuF l = true ∧ (s[x] = 43 ∨ s[x] = 45) ∧ a + 1 ≤ x ∧ ∃ hx0 : x - 1 < s.size, s[x - 1] = 101 ∨ s[x - 1] = 69) := by
  obtain ⟨b, hb, hor⟩ := num_in l (x - a) (by omega)
  rw [byte_of hS, show a + (x - a) = x by omega] at hb
  obtain ⟨hx, rfl⟩ := str_byte hb
  refine ⟨hx, ?_⟩
  rcases hor with h | ⟨h, c, hc, hd⟩ | ⟨hF, h | ⟨h, h2, c, hc, hd⟩⟩
  · exact .inl (dig_bd h)
  · rw [byte_of hS, show a + (x - a + 1) = x + 1 by omega] at hc
    obtain ⟨hx1, rfl⟩ := str_byte hc
    exact .inr (.inl ⟨h, hx1, dig_bd hd⟩)
  · exact .inr (.inr (.inl ⟨hF, h⟩))
  · rw [byte_of hS, show a + (x - a - 1) = x - 1 by omega] at hc
    obtain ⟨hx0, rfl⟩ := str_byte hc
    exact .inr (.inr (.inr ⟨hF, h, by omega, hx0, hd⟩))
/-- Behind a number, where what follows is a token or the end. -/
theorem scan_out {s : ByteArray} {l : List UInt8} {a : Nat} (hS : s.data.toList.drop a = l) (hn : nuL l ≠ 0) (hg : gp (l.drop (nuL l)) ≠ [] → fiE (gp (l.drop (nuL l))) = 0) (hx : a + nuL l < s.size) :
    (¬ (48 : Int) ≤ (s[a + nuL l].toNat : Int) ∨ ¬ (s[a + nuL l].toNat : Int) ≤ 57) ∧
    (s[a + nuL l] = 46 → ¬ (a + nuL l + 1 < s.size) ∨ ∃ hx1 : a + nuL l + 1 < s.size, ¬ (48 : Int) ≤ (s[a + nuL l + 1].toNat : Int) ∨ ¬ (s[a + nuL l + 1].toNat : Int) ≤ 57) ∧
    ((s[a + nuL l] = 101 ∨ s[a + nuL l] = 69) → gpN (l.drop (nuL l)) = 0) ∧
    (∃ hx0 : a + nuL l - 1 < s.size, s[a + nuL l - 1] ≠ 101 ∧ s[a + nuL l - 1] ≠ 69) := by
  have B := at_byte s _ hx
  rw [← byte_of hS] at B
  obtain ⟨n1, n2⟩ := num_out l hn _ B
  refine ⟨dig_nbd n1, fun h46 => ?_, fun h => ?_, ?_⟩
  · by_cases h1 : a + nuL l + 1 < s.size
    · refine .inr ⟨h1, dig_nbd ?_⟩
      cases hd : isDig (s[a + nuL l + 1]'h1)
      · rfl
      · exfalso
        have C : l[nuL l + 1]? = some (s[a + nuL l + 1]'h1) := (byte_of hS).trans (at_byte s _ h1)
        have p0 : (l.drop (nuL l))[0]? = some 46 := by rw [List.getElem?_drop, Nat.add_zero, B, h46]
        have p1 : (l.drop (nuL l))[1]? = some (s[a + nuL l + 1]'h1) := by rw [List.getElem?_drop]; exact C
        obtain ⟨e1, e2⟩ := point_bad p0 p1 hd
        have := hg (by
          rw [e1]
          intro e
          rw [e] at p0
          cases p0)
        rw [e1, e2] at this
        cases this
    · exact .inl h1
  · have p0 : (l.drop (nuL l))[0]? = some (s[a + nuL l]'hx) := by rw [List.getElem?_drop, Nat.add_zero, B]
    exact exp_gap p0 h
  · obtain ⟨c, hc, hd⟩ := num_last l hn
    rw [byte_of hS, show a + (nuL l - 1) = a + nuL l - 1 by omega] at hc
    obtain ⟨hx0, e⟩ := str_byte hc
    refine ⟨hx0, ?_, ?_⟩
    · intro h
      rw [← e, h] at hd
      cases hd
    · intro h
      rw [← e, h] at hd
      cases hd
theorem scan_out' {s : ByteArray} {l : List UInt8} {a x : Nat} (hS : s.data.toList.drop a = l) (hn : nuL l ≠ 0) (hg : gp (l.drop (nuL l)) ≠ [] → fiE (gp (l.drop (nuL l))) = 0) (hxe : x = a + nuL l) (hx : x < s.size) :
    (¬ (48 : Int) ≤ (s[x].toNat : Int) ∨ ¬ (s[x].toNat : Int) ≤ 57) ∧
    (s[x] = 46 → ¬ (x + 1 < s.size) ∨ ∃ hx1 : x + 1 < s.size, ¬ (48 : Int) ≤ (s[x + 1].toNat : Int) ∨ ¬ (s[x + 1].toNat : Int) ≤ 57) ∧
    ((s[x] = 101 ∨ s[x] = 69) → gpN (l.drop (nuL l)) = 0) ∧
    (∃ hx0 : x - 1 < s.size, s[x - 1] ≠ 101 ∧ s[x - 1] ≠ 69) := by
  subst hxe
  exact scan_out hS hn hg hx
theorem byte_eq {b : UInt8} {n : Nat} (h : b = UInt8.ofNat n) (hn : n < 256) : (b.toNat : Int) = n := by
  rw [h, UInt8.toNat_ofNat']
  omega
theorem byte_ne {b : UInt8} {n : Nat} (h : b ≠ UInt8.ofNat n) (hn : n < 256) : ((b.toNat : Int) == n) = false := by
  rw [beq_eq_false_iff_ne]
  intro e
  refine h (UInt8.toNat_inj.1 ?_)
  rw [UInt8.toNat_ofNat']
  omega
end Go.Proofs.YtkhddadhkkffnaaGreatDoor
