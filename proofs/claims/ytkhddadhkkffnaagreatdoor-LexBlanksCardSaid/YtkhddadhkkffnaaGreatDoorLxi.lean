/-
  Contract of lex.Lex: the tokens of a text, in a row of its own, or what is wrong with it. Conditions: the listed tables stand; texts of at most 1048576 bytes.
-/
import Derived.Test.YtkhddadhkkffnaaGreatDoorLxh
import Derived.Test.YtkhddadhkkffnaaGreatDoorMR
namespace Go.Proofs.YtkhddadhkkffnaaGreatDoor
open Go.RowKit Go.Maps
set_option maxRecDepth 100000

/-- The cells of a token, of tokens. -/
def tkCs (t : Tk) : List Value := [.int .u8 t.kd, .int .i64 t.ps, .string ⟨t.tx.toArray⟩, .int .i32 t.nn, .int .u64 t.ff]
def tksC (ts : List Tk) : List Value := ts.flatMap tkCs
theorem tksC_snoc (ts : List Tk) (t : Tk) : tksC (ts ++ [t]) = tksC ts ++ tkCs t := by unfold tksC; simp
theorem tok_info : (Tryz.prog.info? 34).map (fun i => (i.zero, i.size, i.bytes)) = some (some (.agg #[.int .u8 0, .int .i64 0, .string ⟨#[]⟩, .int .i32 0, .int .u64 0]), 5, 48) := by kernel_rfl
theorem own_belowK {w w' : World} {B : Nat} {t : TypeId} {k : Nat} {v : Value} {n : Nat} {xs : List Value} (h : w.ownsRow B t k v n xs) (hb : Below w.heap.size w w') : w'.ownsRow B t k v n xs := by
  refine ⟨h.1, ?_⟩
  rcases h.2 with h2 | ⟨g, cap, cur, e, hB, hh, r⟩
  · exact .inl h2
  · have lt : g < w.heap.size := (Array.getElem?_eq_some_iff.1 hh).1
    exact .inr ⟨g, cap, cur, e, hB, (hb.block g lt).trans hh, r⟩
theorem own_mono' {B C : Nat} {t : TypeId} {k : Nat} {v : Value} {n : Nat} {xs : List Value} {w : World} (hBC : C ≤ B) (h : w.ownsRow B t k v n xs) : w.ownsRow C t k v n xs := by
  refine ⟨h.1, ?_⟩
  rcases h.2 with h2 | ⟨g, cap, cur, e, hb, r⟩
  · exact .inl h2
  · exact .inr ⟨g, cap, cur, e, Nat.le_trans hBC hb, r⟩
theorem own_grownK {B : Nat} {w wr w1 : World} {t : TypeId} {k : Nat} {v : Value} {n : Nat} {xs : List Value} (HB : Below B w wr) (hB : B ≤ wr.heap.size) (own : wr.ownsRow B t k v n xs) (hg : wr.grownBy w1 v.ownBlock) : Below B w w1 := by
  refine HB.grown hg hB fun g e => ?_
  rcases own.2 with ⟨rfl, _⟩ | ⟨g', cap, cur, rfl, hb, _⟩
  · cases e
  · simp [Value.ownBlock] at e
    omega
theorem blk_second (w : World) (o : Obj) (t : TypeId) (cs : Array Value) : Blk ((w.alloc o).alloc (.cells cs t)) (w.heap.size + 1) t cs := by
  have := Blk.new (w.alloc o) t cs
  rw [size_alloc] at this
  exact this
theorem Blk.news {w : World} {g : Nat} {t : TypeId} {cs : Array Value} (h : Blk w g t cs) : ∀ (j : Nat) (u : Value), cs.toList[j]? = some u → w.cell? ((⟨g, 0, none⟩ : Addr).add j) = some u := by
  intro j u hj
  have e : ((⟨g, 0, none⟩ : Addr).add j) = ⟨g, j, none⟩ := by
    simp [Addr.add]
    exact fun h => h.symm
  rw [e, h.cell j, ← Array.getElem?_toList]
  exact hj
/-- The tokens came back. -/
def RetLex (r : List Tk × Int × Nat) (w : World) (e : Ending) (w' : World) : Prop :=
  ∃ v : Value, e = .returned (.tuple #[v, .int .i64 r.2.1, .int .i64 r.2.2]) ∧ w'.ownsRow w.heap.size 34 5 v r.1.length (tksC r.1) ∧ Below w.heap.size w w'
/-- Tokens ahead of what follows. -/
def catR (ts : List Tk) (r : List Tk × Int × Nat) : List Tk × Int × Nat := if r.2.1 ≠ 0 then ([], r.2) else (ts ++ r.1, r.2)
theorem catR_nil (r : List Tk × Int × Nat) (h : r.2.1 ≠ 0 → r.1 = []) : catR [] r = r := by
  unfold catR
  obtain ⟨a, b⟩ := r
  split
  · rename_i h1; rw [show a = [] from h h1]
  · rfl
theorem catR_step (ts : List Tk) {l : List UInt8} {a : Nat} (h0 : l ≠ []) (h : fiE l = 0) : catR ts (lxF (l.length + 1) l a) = catR (ts ++ [fiT l a]) (lxF ((gp (l.drop (fiN l))).length + 1) (gp (l.drop (fiN l))) (a + fiN l + gpN (l.drop (fiN l)))) := by
  have hl := rest_len h
  rw [lxF_tok _ a h0 h, lxF_fuel l.length ((gp (l.drop (fiN l))).length + 1) _ _ (by omega) (by omega)]
  generalize lxF ((gp (l.drop (fiN l))).length + 1) (gp (l.drop (fiN l))) (a + fiN l + gpN (l.drop (fiN l))) = r
  dsimp only
  unfold catR
  by_cases h1 : r.2.1 = 0
  · rw [if_neg (c := r.2.1 ≠ 0) (by omega), if_neg (by dsimp only; omega), if_neg (by omega)]
    simp
  · rw [if_pos (c := r.2.1 ≠ 0) h1, if_pos (by exact h1), if_pos h1]
theorem lexV_cat {s : List UInt8} (h : s.length ≤ 16384) : lexV s = catR [] (lxF ((gp s).length + 1) (gp s) (gpN s)) := by
  have hg := gpN_add s
  have e : lexV s = lxF ((gp s).length + 1) (gp s) (gpN s) := by
    unfold lexV
    rw [if_neg (by omega), lxF_fuel (s.length + 1) ((gp s).length + 1) _ _ (by omega) (by omega)]
  rw [← e, catR_nil]
  intro h1
  exact (lexV_bad h h1).1
theorem drop_gp (s : List UInt8) (a n : Nat) {l : List UInt8} (h : s.drop a = l) : s.drop (a + n) = l.drop n := by rw [← h, List.drop_drop]
set_option maxHeartbeats 3200000 in
theorem xLex_any (s : ByteArray) (w : World) (hE : Env9 w) :
    Calls Tryz.prog 7 #[.string s] w (RetLex (lexV s.data.toList) w) := by
  by_cases hbig : 16384 < s.size
  · have h' : (16384 : Int) < (s.size : Int) := by omega
    have e : lexV s.data.toList = ([], 91, 0) := by unfold lexV; rw [if_pos (by rw [← Lib.size_eq]; exact hbig)]
    rw [e]
    go_enter Tryz.func7, Tryz.ntmps7
    go_wp2_with fail
    exact bodyPost_ret (by simp [results, Tryz.results7, go_sem]; (try rfl)) rfl ⟨_, rfl, ⟨rfl, .inl ⟨rfl, rfl⟩⟩, Below.refl _ _⟩
  · have h' : ¬ (16384 : Int) < (s.size : Int) := by omega
    obtain ⟨i0, hi, hz0, hz1, hz2⟩ := info_parts tok_info
    have HI := Lib.hid hi
    have HZ0 := Lib.hid hz0
    have HZ1 := Lib.hid hz1
    have HZ2 := Lib.hid hz2
    clear hi hz0 hz1 hz2
    have KW := Lib.hid (xKeywords_any w hE)
    have GP := Lib.hid fun w hE => xGap_any s w (by omega) hE
    have LV : Hid (lexV s.data.toList = catR [] (lxF ((gp s.data.toList).length + 1) (gp s.data.toList) (gpN s.data.toList))) := lexV_cat (by rw [← Lib.size_eq]; omega)
    have gl : gpN s.data.toList ≤ s.size := by rw [Lib.size_eq]; exact gpN_le _
    have gd : Hid (s.data.toList.drop (gpN s.data.toList) = gp s.data.toList) := gp_drop _
    have HE := Lib.hid hE
    clear hE hbig
    generalize gp s.data.toList = l0 at *
    generalize gpN s.data.toList = a0 at *
    generalize lexV s.data.toList = R at *
    go_enter Tryz.func7, Tryz.ntmps7
    go_wp2_with fail
    refine KW.out.mono ?_
    rintro e w1 ⟨g, rfl, hg, hK, hb1⟩
    have HK1 := Lib.hid hK
    have HE1 := Lib.hid (HE.out.below hb1)
    have HB1 := Lib.hid hb1
    have lg := hK.lt
    clear hb1 KW HE hK hg
    go_wp2_with fail
    refine (GP.out _ HE1.out.env).mono ?_
    rintro e w2 ⟨rfl, hb2⟩
    have HB2 := Lib.hid hb2
    clear hb2 GP
    go_wp2_with fail
    go_loopw [5, 7] (fun s5 s7 wr => ∃ (ts : List Tk) (l : List UInt8) (a : Nat), s7 = .int .i64 (a : Int) ∧ a ≤ s.size ∧ ts.length ≤ a ∧ Hid (s.data.toList.drop a = l) ∧ Hid (R = catR ts (lxF (l.length + 1) l a)) ∧ Hid (wr.ownsRow w1.heap.size 34 5 s5 ts.length (tksC ts)) ∧ Hid (Below w1.heap.size w1 wr)) (fun _ s7 _ => s.size - (intOf s7).toNat)
    case atStart => exact ⟨[], l0, a0, rfl, gl, Nat.zero_le _, gd, LV, ⟨rfl, .inl ⟨rfl, rfl⟩⟩, HB2⟩
    case round =>
      obtain ⟨ts, l, a, rfl, ha, ht, HL, HR, HO, HB⟩ := hrel
      clear LV gd gl HB2
      have al : l.length = s.size - a := by rw [← HL.out, List.length_drop, ← Lib.size_eq]
      have HEr := Lib.hid (HE1.out.below HB.out)
      by_cases hlt : a < s.size
      · have h1 : (a : Int) < (s.size : Int) := by omega
        have h2 : (a : Int) ≤ (s.size : Int) := by omega
        have hne : l ≠ [] := fun e => by rw [e] at al; simp at al; omega
        have dl : (s.extract a s.size).data.toList = l := by rw [drop_str]; exact HL.out
        have F := Lib.hid (xFirst_any (s.extract a s.size) g wr (by rw [Lib.size_eq, dl]; omega) HEr.out (HK1.out.below HB.out lg))
        rw [dl] at F
        by_cases he : fiE l = 0
        · have fp := fiN_pos he
          have fl := fiN_le l
          have gl2 := gpN_le (l.drop (fiN l))
          rw [List.length_drop] at gl2
          have HR2 : Hid (R = catR (ts ++ [fiT l a]) (lxF ((gp (l.drop (fiN l))).length + 1) (gp (l.drop (fiN l))) (a + fiN l + gpN (l.drop (fiN l))))) := HR.out.trans (catR_step ts hne he)
          have d2 : (s.extract (a + fiN l) s.size).data.toList = l.drop (fiN l) := by rw [drop_str]; exact drop_gp _ _ _ HL.out
          have GG := Lib.hid fun w hE => xGap_any (s.extract (a + fiN l) s.size) w (by rw [Lib.size_eq, d2, List.length_drop]; omega) hE
          rw [d2] at GG
          have HL2 : Hid (s.data.toList.drop (a + fiN l + gpN (l.drop (fiN l))) = gp (l.drop (fiN l))) := by
            show _ = _
            rw [drop_gp _ (a + fiN l) (gpN (l.drop (fiN l))) (drop_gp _ a (fiN l) HL.out)]
            exact gp_drop _
          have TA : Hid (tkCs (fiT l a) = [.int .u8 (fiT l 0).kd, .int .i64 (a : Int), .string ⟨(fiT l 0).tx.toArray⟩, .int .i32 (fiT l 0).nn, .int .u64 (fiT l 0).ff]) := by
            show _ = _
            unfold tkCs fiT
            split
            · rfl
            · split
              · split <;> rfl
              · rfl
          unfold RetFst at F
          rw [he] at F
          clear dl d2 HL HR he hne
          generalize gp (l.drop (fiN l)) = l2 at *
          generalize gpN (l.drop (fiN l)) = g2 at *
          generalize fiT l a = T at *
          generalize fiT l 0 = T0 at *
          generalize fiN l = n at *
          have ov1 : IntKind.i64.wrap ((a : Int) + n) = ((a + n : Nat) : Int) := by rw [IntKind.wrap_i64]; omega
          have ov2 : IntKind.i64.wrap (((a + n : Nat) : Int) + g2) = ((a + n + g2 : Nat) : Int) := by rw [IntKind.wrap_i64]; omega
          have h3 : (((a + n : Nat)) : Int) ≤ (s.size : Int) := by omega
          go_wp2_with fail
          refine F.out.mono ?_
          rintro e w3 ⟨⟨k, x, y, m, f⟩, n', rfl, hT, hb3⟩
          obtain ⟨rfl, rfl⟩ := hT (by first | rfl | trivial)
          have HB3 := Lib.hid (bel_trans HB.out hb3)
          have HO3 := Lib.hid (own_belowK HO.out hb3)
          clear hb3 F HB HO HEr hT
          unfold tkA
          dsimp only at TA ⊢
          go_wp2_with (at_builtin; refine wpList_append_own _ rfl _ _ 23 rfl w1.heap.size 34 i0 (.agg #[.int .u8 0, .int .i64 0, .string ⟨#[]⟩, .int .i32 0, .int .u64 0]) 5 48 Tryz.underlying23 HI.out HZ0.out HZ1.out HZ2.out rfl (by decide) _ _ _ rfl ((HO3.out.alloc _).alloc _) ⟨w3.heap.size + 1, 0, none⟩ 1 1 [.int .u8 k, .int .i64 (a : Int), .string ⟨y.toArray⟩, .int .i32 m, .int .u64 f] rfl rfl ?c1 ?c2 ?c3 ?c4 ?c5 ?_)
          case c1 => exact (blk_second w3 _ _ _).news
          case c2 => intro u hu; simp at hu; rcases hu with rfl | rfl | rfl | rfl | rfl <;> rfl
          case c3 => unfold maxLen; omega
          case c4 => omega
          case c5 => have := HB3.out.size; simp; omega
          intro v' w4 own' hgrow hnil
          clear hnil
          have HB4 := Lib.hid (own_grownK (bel_alloc (bel_alloc HB3.out _) _) (by have := HB3.out.size; simp; omega) ((HO3.out.alloc _).alloc _) hgrow)
          have HO4 : Hid (w4.ownsRow w1.heap.size 34 5 v' (ts ++ [T]).length (tksC (ts ++ [T]))) := by
            show World.ownsRow _ _ _ _ _ _ _
            rw [tksC_snoc, TA.out, List.length_append]
            exact own'
          have HE4 := Lib.hid (HE1.out.below HB4.out)
          have tl : (ts ++ [T]).length ≤ a + n + g2 := by rw [List.length_append, List.length_singleton]; omega
          clear own' hgrow HB3 HO3 TA
          go_wp2_with fail
          refine (GG.out _ HE4.out.env).mono ?_
          rintro e w5 ⟨rfl, hb5⟩
          have HB5 := Lib.hid (bel_trans HB4.out hb5)
          have HO5 := Lib.hid (own_belowK HO4.out hb5)
          clear hb5 GG HB4 HO4 HE4
          go_wp2_with fail
          go_roundw
          case rel => exact ⟨ts ++ [T], l2, a + n + g2, rfl, by omega, tl, HL2, HR2, HO5, HB5⟩
          case measure => simp [intOf]; omega
        · have e' : R = ([], fiE l, a) := by
            rw [HR.out, lxF_err _ _ hne he]
            unfold catR
            rw [if_pos (by exact he)]
          have HRR := Lib.hid e'
          have hne' : (fiE l != 0) = true := by simpa using he
          have HI2 := HB1
          clear dl HL HR he hne al e'
          unfold RetFst at F
          generalize fiE l = E at *
          go_wp2_with fail
          refine F.out.mono ?_
          rintro e w3 ⟨⟨k, x, y, m, f⟩, n', rfl, hT, hb3⟩
          have HB3 := Lib.hid (bel_trans HB1.out (bel_trans HB.out hb3))
          clear hb3 F HB HO HEr hT
          unfold tkA
          dsimp only
          go_wp2_with fail
          refine bodyPost_ret (by simp [results, Tryz.results7, go_sem]; (try rfl)) rfl ⟨.slice none 0 0, ?_, ⟨?_, .inl ⟨rfl, ?_⟩⟩, ?_⟩
          · rw [HRR.out]
          · rw [HRR.out]; rfl
          · rw [HRR.out]; rfl
          · exact bel_alloc HB3.out _
      · obtain rfl : a = s.size := by omega
        obtain rfl : l = [] := List.eq_nil_of_length_eq_zero (by omega)
        have e' : R = (ts ++ [enT s.size], 0, 0) := HR.out
        have HRR := Lib.hid e'
        clear HL HR e' al
        go_wp2_with (at_builtin; refine wpList_append_own _ rfl _ _ 23 rfl w1.heap.size 34 i0 (.agg #[.int .u8 0, .int .i64 0, .string ⟨#[]⟩, .int .i32 0, .int .u64 0]) 5 48 Tryz.underlying23 HI.out HZ0.out HZ1.out HZ2.out rfl (by decide) _ _ _ rfl (HO.out.alloc _) ⟨wr.heap.size, 0, none⟩ 1 1 [.int .u8 0, .int .i64 (s.size : Int), .string ⟨#[]⟩, .int .i32 0, .int .u64 0] rfl rfl ?c1 ?c2 ?c3 ?c4 ?c5 ?_)
        case c1 => exact (Blk.new wr _ _).news
        case c2 => intro u hu; simp at hu; rcases hu with rfl | rfl | rfl | rfl | rfl <;> rfl
        case c3 => unfold maxLen; omega
        case c4 => omega
        case c5 => have := HB.out.size; simp; omega
        intro v' w4 own' hgrow hnil
        clear hnil
        have HB4 := Lib.hid (bel_trans HB1.out (own_grownK (bel_alloc HB.out _) (by have := HB.out.size; simp; omega) (HO.out.alloc _) hgrow))
        have HO4 := Lib.hid (own_mono' HB1.out.size own')
        clear own' hgrow HB HO
        go_wp2_with fail
        refine bodyPost_ret (by simp [results, Tryz.results7, go_sem]; (try rfl)) rfl ⟨v', ?_, ?_, HB4.out⟩
        · rw [HRR.out]
          rfl
        · rw [HRR.out]
          show World.ownsRow _ _ _ _ _ (ts ++ [enT s.size]).length (tksC (ts ++ [enT s.size]))
          rw [tksC_snoc, List.length_append]
          exact HO4.out
end Go.Proofs.YtkhddadhkkffnaaGreatDoor
