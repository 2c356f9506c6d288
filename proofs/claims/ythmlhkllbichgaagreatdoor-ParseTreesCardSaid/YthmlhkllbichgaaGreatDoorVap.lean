/-
  ParseTrees holds, tied to the program's text. (part 16 of 35) Conditions: none beside what the card ties.
-/
import Derived.Test.YthmlhkllbichgaaGreatDoorVao
import Derived.Test.YthmlhkllbichgaaGreatDoorVac
import Derived.Laws.Tables
import Derived.Laws.CopyOwn
import Derived.Test.YthmlhkllbichgaaGreatDoorVam
import Derived.Test.YthmlhkllbichgaaGreatDoorVab
namespace Go.Proofs.YthmlhkllbichgaaGreatDoor
open Go.RowKit Go.Maps
set_option maxRecDepth 100000
def tkCs (t : Tk) : List Value := [.int .u8 t.kd, .int .i64 t.ps, .string ⟨t.tx.toArray⟩, .int .i32 t.nn, .int .u64 t.ff]
def tksC (ts : List Tk) : List Value := ts.flatMap tkCs
theorem tksC_snoc (ts : List Tk) (t : Tk) : tksC (ts ++ [t]) = tksC ts ++ tkCs t := by unfold tksC; simp
theorem tok_info : (Tryz.prog.info? 62).map (fun i => (i.zero, i.size, i.bytes)) = some (some (.agg #[.int .u8 0, .int .i64 0, .string ⟨#[]⟩, .int .i32 0, .int .u64 0]), 5, 48) := by kernel_rfl
theorem own_belowK {w w' : World} {B : Nat} {t : TypeId} {k : Nat} {v : Value} {n : Nat} {xs : List Value} (h : w.ownsRow B t k v n xs) (hb : Below w.heap.size w w') : w'.ownsRow B t k v n xs := by
 refine ⟨h.1, ?_⟩
 rcases h.2 with h2 | ⟨g, cap, cur, e, hB, hh, r⟩
 ·exact .inl h2
 ·have lt : g < w.heap.size := (Array.getElem?_eq_some_iff.1 hh).1
  exact .inr ⟨g, cap, cur, e, hB, (hb.block g lt).trans hh, r⟩
theorem own_mono' {B C : Nat} {t : TypeId} {k : Nat} {v : Value} {n : Nat} {xs : List Value} {w : World} (hBC : C ≤ B) (h : w.ownsRow B t k v n xs) : w.ownsRow C t k v n xs := by
 refine ⟨h.1, ?_⟩
 rcases h.2 with h2 | ⟨g, cap, cur, e, hb, r⟩
 ·exact .inl h2
 ·exact .inr ⟨g, cap, cur, e, Nat.le_trans hBC hb, r⟩
theorem own_grownK {B : Nat} {w wr w1 : World} {t : TypeId} {k : Nat} {v : Value} {n : Nat} {xs : List Value} (HB : Below B w wr) (hB : B ≤ wr.heap.size) (own : wr.ownsRow B t k v n xs) (hg : wr.grownBy w1 v.ownBlock) : Below B w w1 := by
 refine HB.grown hg hB fun g e => ?_
 rcases own.2 with ⟨rfl, _⟩ | ⟨g', cap, cur, rfl, hb, _⟩
 ·cases e
 ·simp [Value.ownBlock] at e
  omega
theorem blk_second (w : World) (o : Obj) (t : TypeId) (cs : Array Value) : Blk ((w.alloc o).alloc (.cells cs t)) (w.heap.size + 1) t cs := by
 have := Blk.new (w.alloc o) t cs
 rw [size_alloc] at this
 exact this
theorem Blk.news {w : World} {g : Nat} {t : TypeId} {cs : Array Value} (h : Blk w g t cs) : ∀ (j : Nat) (u : Value), cs.toList[j]? = some u → w.cell? ((⟨g, 0, none⟩ : Addr).add j) = some u := by
 intro j u hj
 have e : ((⟨g, 0, none⟩ : Addr).add j) = ⟨g, j, none⟩ := by
  simp [Addr.add]
  exact fun h => h.symm
 rw [e, h.cell j, ← Array.getElem?_toList]
 exact hj
def RetLex (r : List Tk × Int × Nat) (w : World) (e : Ending) (w' : World) : Prop :=
 ∃ v : Value, e = .returned (.tuple #[v, .int .i64 r.2.1, .int .i64 r.2.2]) ∧ w'.ownsRow w.heap.size 62 5 v r.1.length (tksC r.1) ∧ Below w.heap.size w w'
def catR (ts : List Tk) (r : List Tk × Int × Nat) : List Tk × Int × Nat := if r.2.1 ≠ 0 then ([], r.2) else (ts ++ r.1, r.2)
theorem catR_nil (r : List Tk × Int × Nat) (h : r.2.1 ≠ 0 → r.1 = []) : catR [] r = r := by
 unfold catR
 obtain ⟨a, b⟩ := r
 split
 ·rename_i h1; rw [show a = [] from h h1]
 ·rfl
theorem catR_step (ts : List Tk) {l : List UInt8} {a : Nat} (h0 : l ≠ []) (h : fiE l = 0) : catR ts (lxF (l.length + 1) l a) = catR (ts ++ [fiT l a]) (lxF ((gp (l.drop (fiN l))).length + 1) (gp (l.drop (fiN l))) (a + fiN l + gpN (l.drop (fiN l)))) := by
 have hl := rest_len h
 rw [lxF_tok _ a h0 h, lxF_fuel l.length ((gp (l.drop (fiN l))).length + 1) _ _ (by omega) (by omega)]
 generalize lxF ((gp (l.drop (fiN l))).length + 1) (gp (l.drop (fiN l))) (a + fiN l + gpN (l.drop (fiN l))) = r
 dsimp only
 unfold catR
 by_cases h1 : r.2.1 = 0
 ·rw [if_neg (c := r.2.1 ≠ 0) (by omega), if_neg (by dsimp only; omega), if_neg (by omega)]
  simp
 ·rw [if_pos (c := r.2.1 ≠ 0) h1, if_pos (by exact h1), if_pos h1]
theorem lexV_cat {s : List UInt8} (h : s.length ≤ 16384) : lexV s = catR [] (lxF ((gp s).length + 1) (gp s) (gpN s)) := by
 have hg := gpN_add s
 have e : lexV s = lxF ((gp s).length + 1) (gp s) (gpN s) := by
  unfold lexV
  rw [if_neg (by omega), lxF_fuel (s.length + 1) ((gp s).length + 1) _ _ (by omega) (by omega)]
 rw [← e, catR_nil]
 intro h1
 exact (lexV_bad h h1).1
theorem drop_gp (s : List UInt8) (a n : Nat) {l : List UInt8} (h : s.drop a = l) : s.drop (a + n) = l.drop n := by rw [← h, List.drop_drop]
set_option maxHeartbeats 3200000 in
theorem xLex_any (s : ByteArray) (w : World) (hE : Env9 w) :
  Calls Tryz.prog 8 #[.string s] w (RetLex (lexV s.data.toList) w) := by
 by_cases hbig : 16384 < s.size
 ·have h' : (16384 : Int) < (s.size : Int) := by omega
  have e : lexV s.data.toList = ([], 91, 0) := by unfold lexV; rw [if_pos (by rw [← Lib.size_eq]; exact hbig)]
  rw [e]
  go_enter Tryz.func8, Tryz.ntmps8
  go_wp2_with fail
  exact bodyPost_ret (by simp [results, Tryz.results8, go_sem]; (try rfl)) rfl ⟨_, rfl, ⟨rfl, .inl ⟨rfl, rfl⟩⟩, Below.refl _ _⟩
 ·have h' : ¬ (16384 : Int) < (s.size : Int) := by omega
  obtain ⟨i0, hi, hz0, hz1, hz2⟩ := info_parts tok_info
  have HI := Hj hi
  have HZ0 := Hj hz0
  have HZ1 := Hj hz1
  have HZ2 := Hj hz2
  clear hi hz0 hz1 hz2
  have KW := Hj (xKeywords_any w hE)
  have GP := Hj fun w hE => xGap_any s w (by omega) hE
  have LV : Hid (lexV s.data.toList = catR [] (lxF ((gp s.data.toList).length + 1) (gp s.data.toList) (gpN s.data.toList))) := lexV_cat (by rw [← Lib.size_eq]; omega)
  have gl : gpN s.data.toList ≤ s.size := by rw [Lib.size_eq]; exact gpN_le _
  have gd : Hid (s.data.toList.drop (gpN s.data.toList) = gp s.data.toList) := gp_drop _
  have HE := Hj hE
  clear hE hbig
  generalize gp s.data.toList = l0 at *
  generalize gpN s.data.toList = a0 at *
  generalize lexV s.data.toList = R at *
  go_enter Tryz.func8, Tryz.ntmps8
  go_wp2_with fail
  refine KW.out.mono ?_
  rintro e w1 ⟨g, rfl, hg, hK, hb1⟩
  have HK1 := Hj hK
  have HE1 := Hj (HE.out.below hb1)
  have HB1 := Hj hb1
  have lg := hK.lt
  clear hb1 KW HE hK hg
  go_wp2_with fail
  refine (GP.out _ HE1.out.env).mono ?_
  rintro e w2 ⟨rfl, hb2⟩
  have HB2 := Hj hb2
  clear hb2 GP
  go_wp2_with fail
  go_loopw [5, 7] (fun s5 s7 wr => ∃ (ts : List Tk) (l : List UInt8) (a : Nat), s7 = .int .i64 (a : Int) ∧ a ≤ s.size ∧ ts.length ≤ a ∧ Hid (s.data.toList.drop a = l) ∧ Hid (R = catR ts (lxF (l.length + 1) l a)) ∧ Hid (wr.ownsRow w1.heap.size 62 5 s5 ts.length (tksC ts)) ∧ Hid (Below w1.heap.size w1 wr)) (fun _ s7 _ => s.size - (intOf s7).toNat)
  case atStart => exact ⟨[], l0, a0, rfl, gl, Nat.zero_le _, gd, LV, ⟨rfl, .inl ⟨rfl, rfl⟩⟩, HB2⟩
  case round =>
   obtain ⟨ts, l, a, rfl, ha, ht, HL, HR, HO, HB⟩ := hrel
   clear LV gd gl HB2
   have al : l.length = s.size - a := by rw [← HL.out, List.length_drop, ← Lib.size_eq]
   have HEr := Hj (HE1.out.below HB.out)
   by_cases hlt : a < s.size
   ·have h1 : (a : Int) < (s.size : Int) := by omega
    have h2 : (a : Int) ≤ (s.size : Int) := by omega
    have hne : l ≠ [] := fun e => by rw [e] at al; simp at al; omega
    have dl : (s.extract a s.size).data.toList = l := by rw [drop_str]; exact HL.out
    have F := Hj (xFirst_any (s.extract a s.size) g wr (by rw [Lib.size_eq, dl]; omega) HEr.out (HK1.out.below HB.out lg))
    rw [dl] at F
    by_cases he : fiE l = 0
    ·have fp := fiN_pos he
     have fl := fiN_le l
     have gl2 := gpN_le (l.drop (fiN l))
     rw [List.length_drop] at gl2
     have HR2 : Hid (R = catR (ts ++ [fiT l a]) (lxF ((gp (l.drop (fiN l))).length + 1) (gp (l.drop (fiN l))) (a + fiN l + gpN (l.drop (fiN l))))) := HR.out.trans (catR_step ts hne he)
     have d2 : (s.extract (a + fiN l) s.size).data.toList = l.drop (fiN l) := by rw [drop_str]; exact drop_gp _ _ _ HL.out
     have GG := Hj fun w hE => xGap_any (s.extract (a + fiN l) s.size) w (by rw [Lib.size_eq, d2, List.length_drop]; omega) hE
     rw [d2] at GG
     have HL2 : Hid (s.data.toList.drop (a + fiN l + gpN (l.drop (fiN l))) = gp (l.drop (fiN l))) := by
      show _ = _
      rw [drop_gp _ (a + fiN l) (gpN (l.drop (fiN l))) (drop_gp _ a (fiN l) HL.out)]
      exact gp_drop _
     have TA : Hid (tkCs (fiT l a) = [.int .u8 (fiT l 0).kd, .int .i64 (a : Int), .string ⟨(fiT l 0).tx.toArray⟩, .int .i32 (fiT l 0).nn, .int .u64 (fiT l 0).ff]) := by
      show _ = _
      unfold tkCs fiT
      split
      ·rfl
      ·split
       ·split <;> rfl
       ·rfl
     unfold RetFst at F
     rw [he] at F
     clear dl d2 HL HR he hne
     generalize gp (l.drop (fiN l)) = l2 at *
     generalize gpN (l.drop (fiN l)) = g2 at *
     generalize fiT l a = T at *
     generalize fiT l 0 = T0 at *
     generalize fiN l = n at *
     have ov1 : IntKind.i64.wrap ((a : Int) + n) = ((a + n : Nat) : Int) := by rw [IntKind.wrap_i64]; omega
     have ov2 : IntKind.i64.wrap (((a + n : Nat) : Int) + g2) = ((a + n + g2 : Nat) : Int) := by rw [IntKind.wrap_i64]; omega
     have h3 : (((a + n : Nat)) : Int) ≤ (s.size : Int) := by omega
     go_wp2_with fail
     refine F.out.mono ?_
     rintro e w3 ⟨⟨k, x, y, m, f⟩, n', rfl, hT, hb3⟩
     obtain ⟨rfl, rfl⟩ := hT (by first | rfl | trivial)
     have HB3 := Hj (bel_trans HB.out hb3)
     have HO3 := Hj (own_belowK HO.out hb3)
     clear hb3 F HB HO HEr hT
     unfold tkA
     dsimp only at TA ⊢
     go_wp2_with (at_builtin; refine wpList_append_own _ rfl _ _ 23 rfl w1.heap.size 62 i0 (.agg #[.int .u8 0, .int .i64 0, .string ⟨#[]⟩, .int .i32 0, .int .u64 0]) 5 48 Tryz.underlying23 HI.out HZ0.out HZ1.out HZ2.out rfl (by decide) _ _ _ rfl ((HO3.out.alloc _).alloc _) ⟨w3.heap.size + 1, 0, none⟩ 1 1 [.int .u8 k, .int .i64 (a : Int), .string ⟨y.toArray⟩, .int .i32 m, .int .u64 f] rfl rfl ?c1 ?c2 ?c3 ?c4 ?c5 ?_)
     case c1 => exact (blk_second w3 _ _ _).news
     case c2 => intro u hu; simp at hu; rcases hu with rfl | rfl | rfl | rfl | rfl <;> rfl
     case c3 => unfold maxLen; omega
     case c4 => omega
     case c5 => have := HB3.out.size; simp; omega
     intro v' w4 own' hgrow hnil
     clear hnil
     have HB4 := Hj (own_grownK (bel_alloc (bel_alloc HB3.out _) _) (by have := HB3.out.size; simp; omega) ((HO3.out.alloc _).alloc _) hgrow)
     have HO4 : Hid (w4.ownsRow w1.heap.size 62 5 v' (ts ++ [T]).length (tksC (ts ++ [T]))) := by
      show World.ownsRow _ _ _ _ _ _ _
      rw [tksC_snoc, TA.out, List.length_append]
      exact own'
     have HE4 := Hj (HE1.out.below HB4.out)
     have tl : (ts ++ [T]).length ≤ a + n + g2 := by rw [List.length_append, List.length_singleton]; omega
     clear own' hgrow HB3 HO3 TA
     go_wp2_with fail
     refine (GG.out _ HE4.out.env).mono ?_
     rintro e w5 ⟨rfl, hb5⟩
     have HB5 := Hj (bel_trans HB4.out hb5)
     have HO5 := Hj (own_belowK HO4.out hb5)
     clear hb5 GG HB4 HO4 HE4
     go_wp2_with fail
     go_roundw
     case rel => exact ⟨ts ++ [T], l2, a + n + g2, rfl, by omega, tl, HL2, HR2, HO5, HB5⟩
     case measure => simp [intOf]; omega
    ·have e' : R = ([], fiE l, a) := by
      rw [HR.out, lxF_err _ _ hne he]
      unfold catR
      rw [if_pos (by exact he)]
     have HRR := Hj e'
     have hne' : (fiE l != 0) = true := by simpa using he
     have HI2 := HB1
     clear dl HL HR he hne al e'
     unfold RetFst at F
     generalize fiE l = E at *
     go_wp2_with fail
     refine F.out.mono ?_
     rintro e w3 ⟨⟨k, x, y, m, f⟩, n', rfl, hT, hb3⟩
     have HB3 := Hj (bel_trans HB1.out (bel_trans HB.out hb3))
     clear hb3 F HB HO HEr hT
     unfold tkA
     dsimp only
     go_wp2_with fail
     refine bodyPost_ret (by simp [results, Tryz.results8, go_sem]; (try rfl)) rfl ⟨.slice none 0 0, ?_, ⟨?_, .inl ⟨rfl, ?_⟩⟩, ?_⟩
     ·rw [HRR.out]
     ·rw [HRR.out]; rfl
     ·rw [HRR.out]; rfl
     ·exact bel_alloc HB3.out _
   ·obtain rfl : a = s.size := by omega
    obtain rfl : l = [] := List.eq_nil_of_length_eq_zero (by omega)
    have e' : R = (ts ++ [enT s.size], 0, 0) := HR.out
    have HRR := Hj e'
    clear HL HR e' al
    go_wp2_with (at_builtin; refine wpList_append_own _ rfl _ _ 23 rfl w1.heap.size 62 i0 (.agg #[.int .u8 0, .int .i64 0, .string ⟨#[]⟩, .int .i32 0, .int .u64 0]) 5 48 Tryz.underlying23 HI.out HZ0.out HZ1.out HZ2.out rfl (by decide) _ _ _ rfl (HO.out.alloc _) ⟨wr.heap.size, 0, none⟩ 1 1 [.int .u8 0, .int .i64 (s.size : Int), .string ⟨#[]⟩, .int .i32 0, .int .u64 0] rfl rfl ?c1 ?c2 ?c3 ?c4 ?c5 ?_)
    case c1 => exact (Blk.new wr _ _).news
    case c2 => intro u hu; simp at hu; rcases hu with rfl | rfl | rfl | rfl | rfl <;> rfl
    case c3 => unfold maxLen; omega
    case c4 => omega
    case c5 => have := HB.out.size; simp; omega
    intro v' w4 own' hgrow hnil
    clear hnil
    have HB4 := Hj (bel_trans HB1.out (own_grownK (bel_alloc HB.out _) (by have := HB.out.size; simp; omega) (HO.out.alloc _) hgrow))
    have HO4 := Hj (own_mono' HB1.out.size own')
    clear own' hgrow HB HO
    go_wp2_with fail
    refine bodyPost_ret (by simp [results, Tryz.results8, go_sem]; (try rfl)) rfl ⟨v', ?_, ?_, HB4.out⟩
    ·rw [HRR.out]
     rfl
    ·rw [HRR.out]
     show World.ownsRow _ _ _ _ _ (ts ++ [enT s.size]).length (tksC (ts ++ [enT s.size]))
     rw [tksC_snoc, List.length_append]
     exact HO4.out
theorem xIsWord_any (s : ByteArray) (w : World) (hs : s.size ≤ 1048576) (hE : Env9 w) :
  Calls Tryz.prog 81 #[.string s] w fun e w' => e = .returned (.bool (kwS.contains s.data.toList)) ∧ Below w.heap.size w w' := by
 have KW := Hj (xKeywords_any w hE)
 go_enter Tryz.func81, Tryz.ntmps81
 go_wp2_with fail
 refine KW.out.mono ?_
 rintro e w1 ⟨g, rfl, hg, hK, hb⟩
 have HB := Hj hb
 obtain ⟨c, hc, hd⟩ := hK.look s hs
 have HD : Hid (decide (0 < c) = kwS.contains s.data.toList) := hd
 clear hb hK hd KW hE
 go_wp2_with fail
 go_ret
 exact ⟨ret_bool HD.out, HB.out⟩
def isnV (l : List UInt8) : Bool := !l.isEmpty && (decide (l.length ≤ 32) && (decide (nmL l = l.length) && !kwS.contains l))
theorem xIsName_any (s : ByteArray) (w : World) (hs : s.size ≤ 1048576) (hE : Env9 w) :
  Calls Tryz.prog 49 #[.string s] w fun e w' => e = .returned (.bool (isnV s.data.toList)) ∧ Below w.heap.size w w' := by
 have V : isnV s.data.toList = (!s.data.toList.isEmpty && (decide (s.data.toList.length ≤ 32) && (decide (nmL s.data.toList = s.data.toList.length) && !kwS.contains s.data.toList))) := rfl
 rw [← Lib.size_eq] at V
 have N := Hj fun w => xName_any s w
 have W := Hj fun w hE => xIsWord_any s w hs hE
 have hem : s.toList.isEmpty = s.data.toList.isEmpty := by rw [Lib.toList_data]
 generalize isnV s.data.toList = R at *
 generalize s.data.toList.isEmpty = em at *
 generalize kwS.contains s.data.toList = k at *
 cases em
 ·by_cases h1 : s.size ≤ 32
  ·have h1' : (s.size : Int) ≤ 32 := by omega
   rw [decide_eq_true h1] at V
   by_cases h2 : nmL s.data.toList = s.size
   ·rw [decide_eq_true h2] at V
    rw [h2] at N
    have VV : Hid ((!k) = R) := by show _ = _; rw [V]; simp
    clear V h2
    go_enter Tryz.func49, Tryz.ntmps49
    go_wp2_with fail
    refine (N.out _).mono ?_
    rintro e w1 ⟨rfl, hb⟩
    have HB := Hj hb
    have HE := Hj (hE.below hb)
    clear hb hE N
    go_wp2_with fail
    refine (W.out _ HE.out).mono ?_
    rintro e w2 ⟨rfl, hb⟩
    have HB2 := Hj (bel_trans HB.out hb)
    clear hb
    go_wp2_with fail
    go_ret
    exact ⟨ret_bool VV.out, HB2.out⟩
   ·have h2' : ((nmL s.data.toList : Int) == (s.size : Int)) = false := by rw [beq_eq_false_iff_ne]; omega
    rw [decide_eq_false h2] at V
    have VV : Hid (false = R) := by show _ = _; rw [V]; simp
    clear V h2
    go_enter Tryz.func49, Tryz.ntmps49
    go_wp2_with fail
    refine (N.out _).mono ?_
    rintro e w1 ⟨rfl, hb⟩
    have HB := Hj hb
    clear hb hE N
    go_wp2_with fail
    go_ret
    exact ⟨ret_bool VV.out, HB.out⟩
  ·have h1' : ¬ (s.size : Int) ≤ 32 := by omega
   rw [decide_eq_false h1] at V
   have VV : Hid (false = R) := by show _ = _; rw [V]; simp
   clear V
   go_enter Tryz.func49, Tryz.ntmps49
   go_wp2_with fail
   go_ret
   exact ⟨ret_bool VV.out, Below.refl _ _⟩
 ·have VV : Hid (false = R) := by show _ = _; rw [V]; simp
  clear V
  go_enter Tryz.func49, Tryz.ntmps49
  go_wp2_with fail
  go_ret
  exact ⟨ret_bool VV.out, Below.refl _ _⟩
theorem tk_eq {a b : Tk} (h : a.kd = b.kd ∧ a.ps = b.ps ∧ a.tx = b.tx ∧ a.nn = b.nn ∧ a.ff = b.ff) : a = b := by
 obtain ⟨a1, a2, a3, a4, a5⟩ := a
 obtain ⟨b1, b2, b3, b4, b5⟩ := b
 obtain ⟨h1, h2, h3, h4, h5⟩ := h
 dsimp only at h1 h2 h3 h4 h5
 rw [h1, h2, h3, h4, h5]
instance tkDec : DecidableEq Tk := fun a b =>
 if h : a.kd = b.kd ∧ a.ps = b.ps ∧ a.tx = b.tx ∧ a.nn = b.nn ∧ a.ff = b.ff then .isTrue (tk_eq h) else .isFalse fun e => h (by subst e; exact ⟨rfl, rfl, rfl, rfl, rfl⟩)
end Go.Proofs.YthmlhkllbichgaaGreatDoor
namespace Go.Proofs.YthmlhkllbichgaaGreatDoor
open Go.RowKit
set_option maxRecDepth 100000
structure Fx (X : Nat → Prop) (B : Nat) (w w' : World) : Prop where
 os : w'.os = w.os
 tape : w'.tape = w.tape
 output : w'.output = w.output
 size : w.heap.size ≤ w'.heap.size
 block : ∀ k, k < B → ¬ X k → w'.heap[k]? = w.heap[k]?
theorem Fx.refl (X : Nat → Prop) (B : Nat) (w : World) : Fx X B w w := ⟨rfl, rfl, rfl, Nat.le_refl _, fun _ _ _ => rfl⟩
theorem Fx.trans {X : Nat → Prop} {B : Nat} {a b c : World} (h : Fx X B a b) (k : Fx X B b c) : Fx X B a c :=
 ⟨k.os.trans h.os, k.tape.trans h.tape, k.output.trans h.output, Nat.le_trans h.size k.size, fun i hi hx => (k.block i hi hx).trans (h.block i hi hx)⟩
theorem Fx.mono {X Y : Nat → Prop} {B C : Nat} {w w' : World} (h : Fx X B w w') (hB : C ≤ B) (hX : ∀ k, k < C → X k → Y k) : Fx Y C w w' :=
 ⟨h.os, h.tape, h.output, h.size, fun k hk hx => h.block k (by omega) fun x => hx (hX k hk x)⟩
theorem Fx.of {X : Nat → Prop} {B : Nat} {w w' : World} (h : Below B w w') : Fx X B w w' := ⟨h.os, h.tape, h.output, h.size, fun k hk _ => h.block k hk⟩
theorem Fx.bel {X : Nat → Prop} {B : Nat} {w w' : World} (h : Fx X B w w') (hX : ∀ k, k < B → ¬ X k) : Below B w w' := ⟨h.os, h.tape, h.output, h.size, fun k hk => h.block k hk (hX k hk)⟩
theorem Fx.alloc {X : Nat → Prop} {B : Nat} {a w : World} (h : Fx X B a w) (hB : B ≤ w.heap.size) (o : Obj) : Fx X B a (w.alloc o) :=
 h.trans (Fx.of ((Below.refl B w).alloc hB o))
theorem Fx.set {X : Nat → Prop} {B : Nat} {a w : World} (h : Fx X B a w) {p : Addr} (hp : X p.block ∨ B ≤ p.block) (u : Value) : Fx X B a (w.setCell p u) := by
 have e := (Below.refl 0 w).setCell (p := p) (Nat.zero_le _) u
 refine h.trans ⟨e.os, e.tape, e.output, e.size, fun k hk hx => Below.heap_setCell _ _ _ _ ?_⟩
 rintro rfl
 rcases hp with hp | hp
 ·exact hx hp
 ·omega
theorem Fx.then {X : Nat → Prop} {B : Nat} {a b c : World} (h : Fx X B a b) (hB : B ≤ a.heap.size) (k : Fx X b.heap.size b c) : Fx X B a c :=
 h.trans (k.mono (Nat.le_trans hB h.size) fun _ _ x => x)
theorem Fx.blk {X : Nat → Prop} {B g : Nat} {w w' : World} {t : TypeId} {cs : Array Value} (h : Fx X B w w') (b : Blk w g t cs) (hg : g < B) (hx : ¬ X g) : Blk w' g t cs := (h.block g hg hx).trans b
theorem fx_alloc {X : Nat → Prop} {a w : World} (h : Fx X a.heap.size a w) (o : Obj) : Fx X a.heap.size a (w.alloc o) := h.alloc h.size o
theorem fx_set {X : Nat → Prop} {a w : World} (h : Fx X a.heap.size a w) {p : Addr} (hp : X p.block ∨ a.heap.size ≤ p.block) (u : Value) : Fx X a.heap.size a (w.setCell p u) := h.set hp u
theorem fx_trans {X : Nat → Prop} {a b c : World} (h : Fx X a.heap.size a b) (k : Fx X b.heap.size b c) : Fx X a.heap.size a c := h.then (Nat.le_refl _) k
theorem fx_bel {X : Nat → Prop} {a b c : World} (h : Fx X a.heap.size a b) (k : Below b.heap.size b c) : Fx X a.heap.size a c := fx_trans h (Fx.of k)
def On (R : Nat) : Nat → Prop := fun k => k = R
def Rdr (R d : Nat) (s : PS) (w : World) : Prop := ∃ T o c, T < R ∧ Blk w R 110 #[.slice (some ⟨T, o, none⟩) s.ts.length c, .int .i64 (d : Int), .int .i64 (s.ns : Int), .int .i64 (s.nx : Int)] ∧
 w.rangeAt T o (tksC s.ts) ∧ s.ts.length ≤ c ∧ c ≤ maxLen ∧ Good s.ts ∧ s.ns ≤ 200 ∧ s.nx ≤ 2000 ∧ d ≤ 24
theorem Rdr.lt {R d : Nat} {s : PS} {w : World} (h : Rdr R d s w) : R < w.heap.size := by
 obtain ⟨T, o, c, h1, h2, -⟩ := h
 exact h2.lt
theorem Rdr.good {R d : Nat} {s : PS} {w : World} (h : Rdr R d s w) : Good s.ts := by
 obtain ⟨T, o, c, -, -, -, -, -, h, -⟩ := h
 exact h
theorem Rdr.deep {R d : Nat} {s : PS} {w : World} (h : Rdr R d s w) : d ≤ 24 := by
 obtain ⟨T, o, c, -, -, -, -, -, -, -, -, h⟩ := h
 exact h
theorem rangeAt_blk {w w' : World} {T o : Nat} {l : List Value} (h : w.rangeAt T o l) (e : w'.heap[T]? = w.heap[T]?) : w'.rangeAt T o l := fun j v hv => by
 have := h j v hv
 unfold World.cell? at this ⊢
 dsimp only at this ⊢
 rw [e]
 exact this
theorem Rdr.fx {R d : Nat} {s : PS} {w w' : World} {X : Nat → Prop} {B : Nat} (h : Rdr R d s w) (hf : Fx X B w w') (hR : R < B) (hX : ∀ k, k ≤ R → ¬ X k) : Rdr R d s w' := by
 obtain ⟨T, o, c, h1, h2, h3, h4⟩ := h
 exact ⟨T, o, c, h1, hf.blk h2 hR (hX R (Nat.le_refl _)), rangeAt_blk h3 (hf.block T (by omega) (hX T (by omega))), h4⟩
theorem Rdr.below {R d : Nat} {s : PS} {w w' : World} {B : Nat} (h : Rdr R d s w) (hb : Below B w w') (hR : R < B) : Rdr R d s w' := h.fx (Fx.of (X := fun _ => False) hb) hR fun _ _ x => x
theorem Rdr.alloc {R d : Nat} {s : PS} {w : World} (h : Rdr R d s w) (o : Obj) : Rdr R d s (w.alloc o) := h.below ((Below.refl w.heap.size w).alloc (Nat.le_refl _) o) h.lt
theorem Rdr.set {R d : Nat} {s : PS} {w : World} (h : Rdr R d s w) {p : Addr} (hp : R < p.block) (u : Value) : Rdr R d s (w.setCell p u) :=
 h.below ((Below.refl (R + 1) w).setCell (p := p) hp u) (Nat.lt_succ_self _)
def Tk.v (t : Tk) : Value := .agg #[.int .u8 t.kd, .int .i64 t.ps, .string ⟨t.tx.toArray⟩, .int .i32 t.nn, .int .u64 t.ff]
structure RdC (R d T o c : Nat) (s : PS) (w : World) : Prop where
 tr : T < R
 blk : Blk w R 110 #[.slice (some ⟨T, o, none⟩) s.ts.length c, .int .i64 (d : Int), .int .i64 (s.ns : Int), .int .i64 (s.nx : Int)]
 c0 : w.cell? ⟨T, o, none⟩ = some (.int .u8 s.hd.kd)
 c1 : w.cell? ⟨T, o + 1, none⟩ = some (.int .i64 s.hd.ps)
 c2 : w.cell? ⟨T, o + 2, none⟩ = some (.string ⟨s.hd.tx.toArray⟩)
 c3 : w.cell? ⟨T, o + 3, none⟩ = some (.int .i32 s.hd.nn)
 c4 : w.cell? ⟨T, o + 4, none⟩ = some (.int .u64 s.hd.ff)
 row : w.rangeAt T o (tksC s.ts)
 lc : s.ts.length ≤ c
 cm : c ≤ maxLen
 good : Good s.ts
 ns : s.ns ≤ 200
 nx : s.nx ≤ 2000
 dp : d ≤ 24
theorem Rdr.rc {R d : Nat} {s : PS} {w : World} (h : Rdr R d s w) : ∃ T o c, RdC R d T o c s w := by
 obtain ⟨T, o, c, h1, h2, h3, h4, h5, h6, h7, h8, h9⟩ := h
 have g : ∀ j v, (tkCs s.hd)[j]? = some v → w.cell? ⟨T, o + j, none⟩ = some v := by
  intro j v hv
  refine h3 j v ?_
  obtain ⟨t, r, e⟩ : ∃ t r, s.ts = t :: r := by
   cases e : s.ts with
   | nil => rw [e] at h6; exact h6.elim
   | cons t r => exact ⟨t, r, rfl⟩
  have e2 : s.hd = t := by unfold PS.hd; rw [e]; rfl
  rw [e2] at hv
  rw [e]
  show (tkCs t ++ tksC r)[j]? = some v
  rw [List.getElem?_append_left (List.getElem?_eq_some_iff.1 hv).1]
  exact hv
 exact ⟨T, o, c, h1, h2, g 0 _ rfl, g 1 _ rfl, g 2 _ rfl, g 3 _ rfl, g 4 _ rfl, h3, h4, h5, h6, h7, h8, h9⟩
theorem RdC.tk {R d T o c : Nat} {s : PS} {w w' : World} (h : RdC R d T o c s w) (hk : s.hd.kd ≠ 0) (hb : Blk w' R 110 #[.slice (some ⟨T, o + 5, none⟩) (s.ts.length - 1) (c - 1), .int .i64 (d : Int), .int .i64 (s.ns : Int), .int .i64 (s.nx : Int)])
  (hT : w'.heap[T]? = w.heap[T]?) : Rdr R d s.tk w' := by
 have hl := tk_len h.good
 have hlc := h.lc
 have e : s.tk.ts.length = s.ts.length - 1 := by omega
 refine ⟨T, o + 5, c - 1, h.tr, by rw [e]; exact hb, ?_, by omega, by have := h.cm; omega, h.good.tail hk, h.ns, h.nx, h.dp⟩
 refine rangeAt_blk (w := w) (fun j v hv => ?_) hT
 have := h.row (5 + j) v (by
  obtain ⟨t, r, e⟩ : ∃ t r, s.ts = t :: r := by
   cases e : s.ts with
   | nil => have := h.good; rw [e] at this; exact this.elim
   | cons t r => exact ⟨t, r, rfl⟩
  have e2 : s.tk.ts = r := by unfold PS.tk; rw [e]; rfl
  rw [e2] at hv
  rw [e]
  show (tkCs t ++ tksC r)[5 + j]? = some v
  rw [List.getElem?_append_right (by simp [tkCs])]
  simpa [tkCs] using hv)
 rw [← Nat.add_assoc] at this
 exact this
theorem RdC.nums {R d T o c : Nat} {s : PS} {w w' : World} (h : RdC R d T o c s w) {d' ns' nx' : Nat} (hb : Blk w' R 110 #[.slice (some ⟨T, o, none⟩) s.ts.length c, .int .i64 (d' : Int), .int .i64 (ns' : Int), .int .i64 (nx' : Int)])
  (hT : w'.heap[T]? = w.heap[T]?) (h1 : ns' ≤ 200) (h2 : nx' ≤ 2000) (h3 : d' ≤ 24) : Rdr R d' ⟨s.ts, ns', nx'⟩ w' :=
 ⟨T, o, c, h.tr, hb, rangeAt_blk h.row hT, h.lc, h.cm, h.good, h1, h2, h3⟩
theorem RdC.fx {R d T o c : Nat} {s : PS} {w w' : World} {X : Nat → Prop} {B : Nat} (h : RdC R d T o c s w) (hf : Fx X B w w') (hR : R < B) (hX : ∀ k, k ≤ R → ¬ X k) : RdC R d T o c s w' := by
 have e := hf.block T (Nat.lt_trans h.tr hR) (hX T (Nat.le_of_lt h.tr))
 have g : ∀ j, w'.cell? ⟨T, j, none⟩ = w.cell? ⟨T, j, none⟩ := fun j => World.cell?_of_block (w := w) e
 exact ⟨h.tr, hf.blk h.blk hR (hX R (Nat.le_refl _)), (g _).trans h.c0, (g _).trans h.c1, (g _).trans h.c2, (g _).trans h.c3, (g _).trans h.c4, rangeAt_blk h.row e, h.lc, h.cm, h.good, h.ns, h.nx, h.dp⟩
theorem RdC.below {R d T o c : Nat} {s : PS} {w w' : World} {B : Nat} (h : RdC R d T o c s w) (hb : Below B w w') (hR : R < B) : RdC R d T o c s w' := h.fx (Fx.of (X := fun _ => False) hb) hR fun _ _ x => x
def flP (c p : Int) : List PanicEntry := [{ v := .iface 66 (.agg #[.int .i64 c, .int .i64 p]), recovered := false }]
def PO {α : Type} (R d : Nat) (w : World) (r : Rs α) (V : α → Value → World → Prop) (e : Ending) (w' : World) : Prop :=
 match r with
 | .ok a s => ∃ v, e = .returned v ∧ V a v w' ∧ Rdr R d s w' ∧ Fx (On R) w.heap.size w w'
 | .no c p => e = .panicked (flP c p) ∧ Fx (On R) w.heap.size w w'
def V0 {α : Type} (_ : α) (v : Value) (_ : World) : Prop := v = .tuple #[]
open Classical in
noncomputable def up (D : Nat → Prop) (w : World) : World := { w with heap := w.heap.mapIdx fun i o => if D i then o else .cells #[] 0 (0, 0) }
theorem up_heap (D : Nat → Prop) (w : World) (k : Nat) (h : D k) : (up D w).heap[k]? = w.heap[k]? := by
 simp only [up, Array.getElem?_mapIdx, if_pos h]
 cases w.heap[k]? <;> rfl
theorem up_not (D : Nat → Prop) (w : World) (k : Nat) (h : ¬ D k) : (up D w).heap[k]? = (w.heap[k]?).map fun _ => .cells #[] 0 (0, 0) := by
 simp only [up, Array.getElem?_mapIdx, if_neg h]
theorem up_cell {D : Nat → Prop} {w : World} {p : Addr} {v : Value} : (up D w).cell? p = some v ↔ D p.block ∧ w.cell? p = some v := by
 unfold World.cell?
 by_cases h : D p.block
 ·rw [up_heap D w _ h]
  exact ⟨fun g => ⟨h, g⟩, fun g => g.2⟩
 ·rw [up_not D w _ h]
  refine ⟨fun g => ?_, fun g => absurd g.1 h⟩
  cases hq : w.heap[p.block]? with
  | none => rw [hq] at g; cases g
  | some o => rw [hq] at g; simp at g
def Stay (B : Nat) (w w' : World) : Prop := ∀ (p : Addr) (v : Value), p.block < B → w.cell? p = some v → w'.cell? p = some v
theorem Rw.stay {w w' : World} {B B' : Nat} {s : Sl} {sz : Nat} {cs : Nat → List Value} (h : Rw w B s sz cs) (hb : Stay B w w') (hB : B ≤ B') : Rw w' B' s sz cs := by
 intro a ha i hi
 obtain ⟨h1, h2⟩ := h a ha i hi
 refine ⟨by omega, fun j v hv => hb _ _ ?_ (h2 j v hv)⟩
 unfold Addr.add
 split <;> exact h1
theorem Ex.In.stay {B B' : Nat} {w w' : World} (hb : Stay B w w') (hB : B ≤ B') {e : Ex} : e.In B w → e.In B' w' := by
 induction e with
 | no => exact fun _ => trivial
 | mk h k ih => exact fun ⟨h1, h2, h3⟩ => ⟨h1, h2.stay hb hB, fun i hi => ih i (h3 i hi)⟩
theorem XsIn.stay {B B' : Nat} {w w' : World} {s : Sl} {k : Nat → Ex} (h : XsIn B w s k) (hb : Stay B w w') (hB : B ≤ B') : XsIn B' w' s k :=
 ⟨h.1, h.2.1.stay hb hB, fun i hi => (h.2.2 i hi).stay hb hB⟩
theorem St.In.stay {B B' : Nat} {w w' : World} (hb : Stay B w w') (hB : B ≤ B') {s : St} : s.In B w → s.In B' w' := by
 induction s with
 | no => exact fun _ => trivial
 | mk h x e t l it il => exact fun ⟨h1, h2, h3, h4, h5, h6, h7⟩ => ⟨h1, h2.stay hb hB, h3.stay hb hB, h4.stay hb hB, fun i hi => it i (h5 i hi), h6.stay hb hB, fun i hi => il i (h7 i hi)⟩
theorem SsIn.stay {B B' : Nat} {w w' : World} {s : Sl} {k : Nat → St} (h : SsIn B w s k) (hb : Stay B w w') (hB : B ≤ B') : SsIn B' w' s k :=
 ⟨h.1, h.2.1.stay hb hB, fun i hi => (h.2.2 i hi).stay hb hB⟩
theorem De.In.stay {B B' : Nat} {w w' : World} {d : De} (h : d.In B w) (hb : Stay B w w') (hB : B ≤ B') : d.In B' w' := ⟨h.1, h.2.1.stay hb hB, h.2.2.stay hb hB⟩
theorem DsIn.stay {B B' : Nat} {w w' : World} {s : Sl} {k : Nat → De} (h : DsIn B w s k) (hb : Stay B w w') (hB : B ≤ B') : DsIn B' w' s k :=
 ⟨h.1, h.2.1.stay hb hB, fun i hi => (h.2.2 i hi).stay hb hB⟩
theorem stay_up (D : Nat → Prop) (w : World) : Stay w.heap.size (up D w) w := fun _ _ _ h => (up_cell.1 h).2
theorem stay_imp {D D' : Nat → Prop} {B : Nat} (h : ∀ k, k < B → D k → D' k) (w : World) : Stay B (up D w) (up D' w) := fun _ _ hp g => up_cell.2 ⟨h _ hp (up_cell.1 g).1, (up_cell.1 g).2⟩
theorem stay_fx {X D : Nat → Prop} {w w' : World} (h : Fx X w.heap.size w w') (hX : ∀ k, X k → ¬ D k) : Stay w.heap.size (up D w) (up D w') := fun p v hp g => by
 obtain ⟨g1, g2⟩ := up_cell.1 g
 refine up_cell.2 ⟨g1, ?_⟩
 rw [← g2]
 exact World.cell?_of_block (w := w) (h.block p.block hp fun x => hX _ x g1)
def Fro (L : Nat) : Nat → Prop := fun k => L ≤ k
def XO (D : Nat → Prop) (e : Ex) (w : World) : Prop := e.In w.heap.size (up D w)
theorem XO.fx {X D : Nat → Prop} {e : Ex} {w w' : World} (h : XO D e w) (hf : Fx X w.heap.size w w') (hX : ∀ k, X k → ¬ D k) : XO D e w' := Ex.In.stay (stay_fx hf hX) hf.size h
theorem XO.imp {D D' : Nat → Prop} {e : Ex} {w : World} (h : XO D e w) (hD : ∀ k, k < w.heap.size → D k → D' k) : XO D' e w := Ex.In.stay (stay_imp hD w) (Nat.le_refl _) h
theorem XO.out {D : Nat → Prop} {e : Ex} {w : World} (h : XO D e w) : e.In w.heap.size w := Ex.In.stay (stay_up D w) (Nat.le_refl _) h
def Ex.eqv : Ex → Ex → Prop
 | .no, f => hdS zeroH f.h = true ∧ f.h.ps = 0
 | .mk h k, f => hdS h f.h = true ∧ f.h.ps = h.ps ∧ ∀ i, i < h.s.n → (k i).eqv (f.k i)
theorem Ex.eqv_iff (e f : Ex) : e.eqv f ↔ hdS e.h f.h = true ∧ f.h.ps = e.h.ps ∧ ∀ i, i < e.h.s.n → (e.k i).eqv (f.k i) := by
 cases e with
 | no => exact ⟨fun h => ⟨h.1, h.2, fun i hi => absurd hi (Nat.not_lt_zero i)⟩, fun h => ⟨h.1, h.2.1⟩⟩
 | mk h k => exact Iff.rfl
theorem hdS_refl (h : EH) : hdS h h = true := by simp [hdS]
theorem Ex.eqv_refl (e : Ex) : e.eqv e := by
 induction e using Ex.ind with
 | H e ih => exact (Ex.eqv_iff e e).2 ⟨hdS_refl _, rfl, ih⟩
theorem Ex.eqv_same {e : Ex} : ∀ {f : Ex}, e.eqv f → e.same f = true := by
 induction e using Ex.ind with
 | H e ih =>
  intro f h
  obtain ⟨h1, h2, h3⟩ := (Ex.eqv_iff e f).1 h
  rw [Ex.same_hd, Bool.and_eq_true]
  exact ⟨h1, al_iff.2 fun i hi => ih i hi (h3 i hi)⟩
def VD (D : Nat → Prop) (e : Ex) (v : Value) (w : World) : Prop := ∃ e' : Ex, v = e'.h.v ∧ XO D e' w ∧ e'.eqv e
def VX (L : Nat) (e : Ex) (v : Value) (w : World) : Prop := ∃ e' : Ex, v = e'.h.v ∧ XO (Fro L) e' w ∧ e'.eqv e
theorem fx_row {X : Nat → Prop} {a w : World} (h : Fx X a.heap.size a w) {g : Nat} (hp : X g ∨ a.heap.size ≤ g) (cs : Array Value) : Fx X a.heap.size a (w.setRow g cs) := by
 have e := below_setRow (Below.refl 0 w) (Nat.zero_le g) cs
 refine h.trans ⟨e.os, e.tape, e.output, e.size, fun k hk hx => setRow_other w g k cs ?_⟩
 rintro rfl
 rcases hp with hp | hp
 ·exact hx hp
 ·omega
theorem Rdr.row {R d : Nat} {s : PS} {w : World} (h : Rdr R d s w) {g : Nat} (hp : R < g) (cs : Array Value) : Rdr R d s (w.setRow g cs) :=
 h.below (below_setRow (Below.refl (R + 1) w) hp cs) (Nat.lt_succ_self _)
theorem Blk.rowS {w : World} {g : Nat} {t : TypeId} {old : Array Value} (h : Blk w g t old) (cs : Array Value) : Blk (w.setRow g cs) g t cs := setRow_heap w g old cs t (0, 0) h
theorem XO.row {D : Nat → Prop} {e : Ex} {w : World} (h : XO D e w) {g : Nat} (hg : ¬ D g) (cs : Array Value) : XO D e (w.setRow g cs) := h.fx (X := On g) (fx_row (X := On g) (Fx.refl _ _ _) (g := g) (.inl rfl) cs) (fun k (x : k = g) => by rw [x]; exact hg)
theorem Blk.off {w : World} {g k : Nat} {t : TypeId} {old : Array Value} (h : Blk w k t old) (hk : k ≠ g) (cs : Array Value) : Blk (w.setRow g cs) k t old := (setRow_other w g k cs hk).trans h
theorem row_size (w : World) (g : Nat) (cs : Array Value) : (w.setRow g cs).heap.size = w.heap.size := by simp [World.setRow]
def Tk.vs (t : Tk) : Array Value := #[.int .u8 t.kd, .int .i64 t.ps, .string ⟨t.tx.toArray⟩, .int .i32 t.nn, .int .u64 t.ff]
def EH.va (h : EH) : Array Value := #[.int .u8 h.op, .int .i64 h.ps, .bool h.bo, .int .i32 h.it, .int .u64 h.fl, .string ⟨h.nm.toArray⟩, .slice h.s.ao h.s.n h.s.c]
def zX : Obj := .cells #[.int .u8 0, .int .i64 0, .bool false, .int .i32 0, .int .u64 0, .string ⟨#[]⟩, .slice none 0 0] 41
section
variable {ops : Array Oper} {rest : List Oper} {o : Oper} {a : Act} {w : World} {Q : Exit → Act → World → Prop}
theorem st_tok (t : Tk) (g : Nat) (old : Array Value) (hg : Blk w g 62 old) (hold : old.size = 5) (hgd : o.guard = none) (x y : Operand) (ho : o.op = .store 62 x y) (hx : a.eval x = .pointer (some ⟨g, 0, none⟩)) (hy : a.eval y = t.v)
  (h : wpList Tryz.prog ops Q rest (a.put o.dst undef) (w.setRow g t.vs)) : wpList Tryz.prog ops Q (o :: rest) a w :=
 wpList_store_row hgd 62 x y ho g t.vs hx hy 62 old hg (by kernel_rfl) hold (by simp [Tk.vs, Value.oneCell']) h
theorem st_ex (e : EH) (g : Nat) (old : Array Value) (hg : Blk w g 41 old) (hold : old.size = 7) (hgd : o.guard = none) (x y : Operand) (ho : o.op = .store 41 x y) (hx : a.eval x = .pointer (some ⟨g, 0, none⟩)) (hy : a.eval y = e.v)
  (h : wpList Tryz.prog ops Q rest (a.put o.dst undef) (w.setRow g e.va)) : wpList Tryz.prog ops Q (o :: rest) a w :=
 wpList_store_row hgd 41 x y ho g e.va hx hy 41 old hg (by kernel_rfl) hold (by simp [EH.va, Value.oneCell']) h
theorem ld_ex (e : EH) (g : Nat) (hg : Blk w g 41 e.va) (hgd : o.guard = none) (x : Operand) (ho : o.op = .load 41 x) (hx : a.eval x = .pointer (some ⟨g, 0, none⟩))
  (h : wpList Tryz.prog ops Q rest (a.put o.dst (.agg #[.int .u8 e.op, .int .i64 e.ps, .bool e.bo, .int .i32 e.it, .int .u64 e.fl, .string ⟨e.nm.toArray⟩, .slice e.s.ao e.s.n e.s.c])) w) : wpList Tryz.prog ops Q (o :: rest) a w :=
 wpList_load_row hgd 41 x ho g hx 41 e.va (0, 0) _ hg Tryz.underlying41 rfl (by kernel_rfl) h
end
theorem rs_tok {fn : Func} {p : Tmp} (h : fn.results = #[.cell p 62]) (tmps : Array Value) (w : World) (g : Nat) (t : Tk) (hp : tmps.getD p undef = .pointer (some ⟨g, 0, none⟩)) (hg : Blk w g 62 t.vs) : (results fn tmps).run Tryz.prog w = .ok t.v w :=
 results_cell_row h tmps w g 62 t.vs (0, 0) _ hp hg Tryz.underlying62 rfl (by kernel_rfl)
theorem rs_ex {fn : Func} {p : Tmp} (h : fn.results = #[.cell p 41]) (tmps : Array Value) (w : World) (g : Nat) (e : EH) (hp : tmps.getD p undef = .pointer (some ⟨g, 0, none⟩)) (hg : Blk w g 41 e.va) : (results fn tmps).run Tryz.prog w = .ok e.v w :=
 results_cell_row h tmps w g 41 e.va (0, 0) _ hp hg Tryz.underlying41 rfl (by kernel_rfl)
theorem bx_ex (w : World) (e : EH) : Blk (bx w (xO e)) w.heap.size 41 e.va := bx_new w (xO e)
def Runs (n : Nat) : Prop := ∀ (args : Array Value) (w : World), (callFunc n args).run Tryz.prog w = .ok (.enter n args) w
def Reads (R d n : Nat) (p : PS → Rs Ex) : Prop := ∀ (s : PS) (w : World), Rdr R d s w → Calls Tryz.prog n #[.pointer (some ⟨R, 0, none⟩)] w (PO R d w (p s) (VX w.heap.size))
theorem whole_ok {e a : Ex} {s s' : PS} (h : whole e s = .ok a s') : a = e := by
 unfold whole at h
 split at h
 ·cases h
 ·cases h; rfl
theorem XO.bel {D : Nat → Prop} {e : Ex} {w w' : World} (h : XO D e w) (hb : Below w.heap.size w w') : XO D e w' := h.fx (X := fun _ => False) (Fx.of hb) (fun _ x => x.elim)
theorem bel_one (w : World) (o : Obj) : Below w.heap.size w (w.alloc o) := (Below.refl _ _).alloc (Nat.le_refl _) o
theorem on_not {R : Nat} {D : Nat → Prop} (h : ¬ D R) : ∀ k, On R k → ¬ D k := fun k (x : k = R) => by rw [x]; exact h
theorem on_ne {R g : Nat} (h : R < g) : ¬ On R g := fun x => by unfold On at x; omega
theorem eh_ok {op ps it fl : Int} {bo : Bool} {nm : List UInt8} {s : Sl} (ho0 : 0 ≤ op) (ho1 : op ≤ 255) (hp0 : 0 ≤ ps) (hp1 : ps ≤ 16384) (hi0 : -2147483648 ≤ it) (hi1 : it ≤ 2147483647) (hf0 : 0 ≤ fl) (hf1 : fl < 18446744073709551616) (hn : nm.length ≤ 16384) (hs : s.ok) :
  (⟨op, ps, bo, it, fl, nm, s⟩ : EH).ok :=
 ⟨ho0, ho1, by dsimp only; omega, by dsimp only; omega, hi0, hi1, ⟨hf0, hf1⟩, Nat.le_trans hn (by unfold maxLen; decide), hs⟩
theorem sl_ok (a : Addr) (n : Nat) (h : n ≤ 1000000) : (⟨some a, n, n⟩ : Sl).ok := ⟨Nat.le_refl _, Nat.le_trans h (by unfold maxLen; decide), fun e => by cases e⟩
theorem sl_no : (⟨none, 0, 0⟩ : Sl).ok := ⟨Nat.le_refl _, Nat.zero_le _, fun _ => rfl⟩
theorem two_in {D : Nat → Prop} {w : World} {e f : Ex} {op ps : Int} (h1 : XO D e w) (h2 : XO D f w) (hL : D w.heap.size) (ho0 : 0 ≤ op) (ho1 : op ≤ 255) (hp0 : 0 ≤ ps) (hp1 : ps ≤ 16384)
  {w' : World} {t : TypeId} (hw : w' = w.alloc (.cells (e.h.vs ++ f.h.vs).toArray t)) :
  XO D (.mk ⟨op, ps, false, 0, 0, [], ⟨some ⟨w.heap.size, 0, none⟩, 2, 2⟩⟩ (fun i => if i = 0 then e else f)) w' := by
 subst hw
 have k : ∀ x : Ex, XO D x w → XO D x (w.alloc (.cells (e.h.vs ++ f.h.vs).toArray t)) := fun x hx => hx.fx (X := fun _ => False) (Fx.of ((Below.refl _ _).alloc (Nat.le_refl _) _)) (fun _ h => h.elim)
 refine ⟨eh_ok ho0 ho1 hp0 hp1 (by decide) (by decide) (by decide) (by decide) (Nat.zero_le _) (sl_ok _ _ (by decide)), ?_, ?_⟩
 ·intro a ha i hi
  cases ha
  have hi : i < 2 := hi
  refine ⟨by rw [World.size_alloc]; exact Nat.lt_succ_self _, fun j v hv => ?_⟩
  have hb := Blk.new w t (e.h.vs ++ f.h.vs).toArray
  have hj : j < 7 := by
   have := (List.getElem?_eq_some_iff.1 hv).1
   simpa [EH.vs] using this
  rw [up_cell, Addr.add_mid]
  refine ⟨hL, ?_⟩
  rw [Nat.zero_add, hb.cell]
  simp only [List.getElem?_toArray]
  rcases (show i = 0 ∨ i = 1 by omega) with rfl | rfl
  ·simp only [if_pos] at hv
   rw [List.getElem?_append_left (by simp [EH.vs]; omega)]
   simpa using hv
  ·rw [List.getElem?_append_right (by simp [EH.vs])]
   simpa [EH.vs] using hv
 ·intro i hi
  dsimp only
  split
  ·exact k e h1
  ·exact k f h2
theorem one_in {D : Nat → Prop} {w : World} {e : Ex} {op ps : Int} {nm : List UInt8} (h1 : XO D e w) (hL : D w.heap.size) (ho0 : 0 ≤ op) (ho1 : op ≤ 255) (hp0 : 0 ≤ ps) (hp1 : ps ≤ 16384) (hn : nm.length ≤ 16384)
  {w' : World} {t : TypeId} (hw : w' = w.alloc (.cells e.h.vs.toArray t)) :
  XO D (.mk ⟨op, ps, false, 0, 0, nm, ⟨some ⟨w.heap.size, 0, none⟩, 1, 1⟩⟩ (fun _ => e)) w' := by
 subst hw
 have k : XO D e (w.alloc (.cells e.h.vs.toArray t)) := h1.fx (X := fun _ => False) (Fx.of ((Below.refl _ _).alloc (Nat.le_refl _) _)) (fun _ h => h.elim)
 refine ⟨eh_ok ho0 ho1 hp0 hp1 (by decide) (by decide) (by decide) (by decide) hn (sl_ok _ _ (by decide)), ?_, fun i hi => k⟩
 intro a ha i hi
 cases ha
 have hi : i < 1 := hi
 refine ⟨by rw [World.size_alloc]; exact Nat.lt_succ_self _, fun j v hv => ?_⟩
 have hb := Blk.new w t e.h.vs.toArray
 have hj : j < 7 := by
  have := (List.getElem?_eq_some_iff.1 hv).1
  simpa [EH.vs] using this
 rw [up_cell, Addr.add_mid]
 refine ⟨hL, ?_⟩
 rw [Nat.zero_add, hb.cell]
 simp only [List.getElem?_toArray]
 obtain rfl : i = 0 := by omega
 simpa using hv
theorem two_eqv {e f a b : Ex} {op ps : Int} {A : Option Addr} {c : Nat} (h1 : e.eqv a) (h2 : f.eqv b) : (Ex.mk ⟨op, ps, false, 0, 0, [], ⟨A, 2, c⟩⟩ (fun i => if i = 0 then e else f)).eqv (opX op ps [a, b]) := by
 refine ⟨by simp [hdS, opX, Ex.h], rfl, fun i hi => ?_⟩
 have hi : i < 2 := hi
 rcases (show i = 0 ∨ i = 1 by omega) with rfl | rfl
 ·exact h1
 ·exact h2
theorem one_eqv {e a : Ex} {op ps : Int} {A : Option Addr} {c : Nat} (h1 : e.eqv a) : (Ex.mk ⟨op, ps, false, 0, 0, [], ⟨A, 1, c⟩⟩ (fun _ => e)).eqv (opX op ps [a]) := by
 refine ⟨by simp [hdS, opX, Ex.h], rfl, fun i hi => ?_⟩
 have hi : i < 1 := hi
 obtain rfl : i = 0 := by omega
 exact h1
end Go.Proofs.YthmlhkllbichgaaGreatDoor
