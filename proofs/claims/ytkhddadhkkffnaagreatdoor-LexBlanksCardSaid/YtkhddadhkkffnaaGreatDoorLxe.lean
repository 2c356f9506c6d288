/-
  The map of keywords: how it is made, and what it says of a text. Conditions: the listed tables stand; texts of at most 1048576 bytes.
-/
import Derived.Test.YtkhddadhkkffnaaGreatDoorLxd
import Derived.Test.YtkhddadhkkffnaaGreatDoorLexv
import Derived.Maps.Own
import Derived.Maps.OwnOps
import Derived.StringKeys
namespace Go.Proofs.YtkhddadhkkffnaaGreatDoor
open Go.RowKit Go.Maps Go.WideMaps
set_option maxRecDepth 100000

/-- What the library's functions ask of the world, with those that lex calls. -/
structure Env9 (w : World) : Prop where
  env : EnvOk w
  spc : Lib.TabIs Tryz.prog w "strings.asciiSpace" .u8 Lib.asciiSpaceTab
  rng : ∃ ev, w.cell? ⟨7, 0, none⟩ = some ev ∧ (ev = .nilIface ∨ ∃ te pe, ev = .iface te pe)
theorem Env9.below {w w' : World} (h : Env9 w) (hb : Below w.heap.size w w') : Env9 w' := by
  refine ⟨h.env.below hb, tabIs_below h.spc hb, ?_⟩
  obtain ⟨ev, h1, h2⟩ := h.rng
  have lt : 7 < w.heap.size := World.block_lt_of_cell? _ _ h1
  exact ⟨ev, (hb.cell (p := ⟨7, 0, none⟩) lt).trans h1, h2⟩

theorem kwLaw : Keyed Tryz.prog 9 := string_keyed Tryz.underlying9
theorem kwZero (w : World) : (zeroValue 3).run Tryz.prog w = .ok (.int .i64 0) w := by kernel_rfl
/-- The map behind k words. -/
def kwM : Nat → DataW Unit
  | 0 => .map []
  | k + 1 => (kwM k).put (.string (kwS.getD k [])) (.lit (.int .i64 (k + 1)))
theorem kwM_isMap : ∀ k, IsMap (kwM k)
  | 0 => isMap_empty
  | k + 1 => (kwM_isMap k).put _ _
theorem kwM_at (l : List UInt8) (z : DataW Unit) : ∀ k, k ≤ 15 → (∃ c : Int, 0 < c ∧ (kwM k).atKey (.string l) z = .lit (.int .i64 c) ∧ (kwS.take k).contains l = true) ∨ ((kwM k).atKey (.string l) z = z ∧ (kwS.take k).contains l = false)
  | 0, _ => .inr ⟨rfl, rfl⟩
  | k + 1, h => by
    have hl : k < kwS.length := by show k < 15; omega
    have et : kwS.take (k + 1) = kwS.take k ++ [kwS.getD k []] := by
      rw [List.take_add_one, List.getElem?_eq_getElem hl]
      simp [List.getD, List.getElem?_eq_getElem hl]
    by_cases e : l = kwS.getD k []
    · refine .inl ⟨(k : Int) + 1, by omega, ?_, ?_⟩
      · rw [e]
        exact atKey_put_same (kwM_isMap k) (by trivial) _ z
      · rw [et, e]
        simp
    · have hk : (kwM (k + 1)).atKey (.string l) z = (kwM k).atKey (.string l) z := atKey_put_other (by intro h; injection h with h; exact e h) _ z
      have hc : (kwS.take (k + 1)).contains l = (kwS.take k).contains l := by
        rw [et, Bool.eq_iff_iff]
        simp only [List.contains_iff_mem, List.mem_append, List.mem_singleton]
        exact ⟨fun h => h.resolve_right e, .inl⟩
      rw [hk, hc]
      exact kwM_at l z k (by omega)
/-- Block g holds the map of keywords. -/
def KwOk (w : World) (g : Nat) : Prop := w.ownsMap Tryz.prog 9 (plainElem (H := Unit) Tryz.prog 3) g 15 (kwM 15)
theorem KwOk.below {w w' : World} {g B : Nat} (h : KwOk w g) (hb : Below B w w') (hg : g < B) : KwOk w' g := by
  obtain ⟨es, clock, h1, h2⟩ := h
  exact ⟨es, clock, (hb.block g hg).trans h1, h2⟩
theorem KwOk.lt {w : World} {g : Nat} (h : KwOk w g) : g < w.heap.size := World.ownsMap.lt h
theorem KwOk.alloc {w : World} {g : Nat} (h : KwOk w g) (o : Obj) : KwOk (w.alloc o) g := World.ownsMap.alloc h o
theorem KwOk.look {w : World} {g : Nat} (h : KwOk w g) (s : ByteArray) (hs : s.size ≤ 1048576) : ∃ c, (Instr.lookup 36 (.map (some g)) (.string s) false).run Tryz.prog w = .ok (.int .i64 c) w ∧ decide (0 < c) = kwS.contains s.data.toList := by
  obtain ⟨c, h1, h2, -⟩ := World.ownsMap.lookup_int h kwLaw Tryz.underlying36 Tryz.underlying3 (kwZero w) (keyOf_string_mk Tryz.underlying9 (s := s) (by unfold maxLen; omega))
  refine ⟨c, h1, ?_⟩
  have e15 : kwS.take 15 = kwS := rfl
  rcases kwM_at s.data.toList (.lit (.int .i64 0)) 15 (Nat.le_refl _) with ⟨d, d0, d1, d2⟩ | ⟨d1, d2⟩
  · rw [e15] at d2
    rw [d1] at h2
    obtain rfl : d = c := by injection h2 with h2; injection h2
    rw [d2, decide_eq_true d0]
  · rw [e15] at d2
    rw [d1] at h2
    obtain rfl : 0 = c := by injection h2 with h2; injection h2
    rw [d2]
    rfl
def kwText : ByteArray := ⟨#[116, 105, 99, 107, 115, 32, 105, 110, 112, 117, 116, 32, 118, 97, 114, 32, 105, 110, 105, 116, 32, 115, 116, 101, 112, 32, 105, 102, 32, 101, 108, 115, 101, 32, 102, 111, 114, 32, 116, 114, 117, 101, 32, 102, 97, 108, 115, 101, 32, 105, 110, 116, 32, 102, 108, 111, 97, 116, 32, 98, 111, 111, 108, 32, 97, 98, 115, 32, 105, 110]⟩
theorem kw_fields : Lib.fields kwText.data.toList = kwS := by decide +kernel
theorem fields_kw (w : World) (hE : Env9 w) : Calls Tryz.prog 29 #[.string kwText] w fun e w' => e = .returned (.slice (some ⟨w.heap.size, 0, none⟩) 15 15) ∧ w' = w.alloc (.cells (kwS.map fun l => Value.string ⟨l.toArray⟩).toArray 9) := by
  have := sh_strings_Fields_laid kwText w (by decide) (fun j b h => (ascii_of_all (l := kwText.data.toList) (by decide)) j b h) hE.spc
  rw [kw_fields] at this
  exact this
set_option maxHeartbeats 800000 in
theorem xKeywords_any (w : World) (hE : Env9 w) :
    Calls Tryz.prog 17 #[] w fun e w' => ∃ g, e = .returned (.map (some g)) ∧ w.heap.size ≤ g ∧ KwOk w' g ∧ Below w.heap.size w w' := by
  have hmm := @run_makeMap Tryz.prog
  have F := Lib.hid (fields_kw (w.alloc (.map #[] 0)) (hE.below (bel_alloc (Below.refl _ _) _)))
  unfold kwText at F
  go_enter Tryz.func17, Tryz.ntmps17
  go_wp2_with fail
  refine F.out.mono ?_
  rintro e w1 ⟨rfl, hw1⟩
  rw [size_alloc]
  have HB1 : Hid (Below w.heap.size w w1) := by show Below _ _ _; rw [hw1]; exact bel_alloc (bel_alloc (Below.refl _ _) _) _
  have HM1 : Hid (w1.ownsMap Tryz.prog 9 (plainElem (H := Unit) Tryz.prog 3) w.heap.size 0 (kwM 0)) := by
    show World.ownsMap _ _ _ _ _ _ _
    rw [hw1]
    exact (World.ownsMap_made w Tryz.prog 9 (plainElem (H := Unit) Tryz.prog 3)).alloc _
  have HK1 : Hid (Blk w1 (w.heap.size + 1) 9 (kwS.map fun l => Value.string ⟨l.toArray⟩).toArray) := by
    show Blk _ _ _ _
    rw [hw1]
    have := Blk.new (w.alloc (.map #[] 0)) 9 (kwS.map fun l => Value.string ⟨l.toArray⟩).toArray
    rw [size_alloc] at this
    exact this
  clear hw1 F
  go_wp2_with fail
  go_loopw [7] (fun s7 wr => ∃ k : Nat, s7 = .int .i64 (k : Int) ∧ k ≤ 15 ∧ Hid (wr.ownsMap Tryz.prog 9 (plainElem (H := Unit) Tryz.prog 3) w.heap.size k (kwM k)) ∧ Hid (Blk wr (w.heap.size + 1) 9 (kwS.map fun l => Value.string ⟨l.toArray⟩).toArray) ∧ Hid (Below w.heap.size w wr)) (fun s7 _ => 15 - (intOf s7).toNat)
  case atStart => exact ⟨0, rfl, by omega, HM1, HK1, HB1⟩
  case round =>
    obtain ⟨k, rfl, hk, HM, HK, HB⟩ := hrel
    by_cases hlt : k < 15
    · obtain ⟨s, hs⟩ : ∃ s : ByteArray, s = ⟨(kwS.getD k []).toArray⟩ := ⟨_, rfl⟩
      have ds : s.data.toList = kwS.getD k [] := by rw [hs]
      have hc : wr.cell? ⟨w.heap.size + 1, k, none⟩ = some (.string s) := by
        have : k < kwS.length := hlt
        rw [HK.out.cell, hs]
        simp [List.getD, List.getElem?_eq_getElem this]
      have hz : s.size ≤ maxLen := by
        rw [Lib.size_eq, ds]
        have : ∀ j, j < 15 → (kwS.getD j []).length ≤ 10 := by decide
        have := this k hlt
        unfold maxLen
        omega
      have hkey : keyOf Tryz.prog 9 (.string s) = some (.string (kwS.getD k [])) := by rw [keyOf_string_mk Tryz.underlying9 hz, ds]
      have ov : IntKind.i64.wrap ((k : Int) + 1) = k + 1 := by rw [IntKind.wrap_i64]; omega
      have hl1 : (k : Int) < 15 := by omega
      clear hs ds hz hE
      go_wp2_with (first
        | (at_mapUpdate; refine wpList_mapUpdate_own _ rfl _ _ _ 36 rfl 9 3 kwLaw Tryz.underlying36 _ w.heap.size k _ rfl HM.out (by unfold maxLen; omega) _ _ _ rfl rfl hkey _ [] (plainElem_int Tryz.underlying3 (WalkArith.wf_i64 (by omega))) ?_)
        | fail)
      intro w2 own2 grow2
      have HM2 : Hid (w2.ownsMap Tryz.prog 9 (plainElem (H := Unit) Tryz.prog 3) w.heap.size (k + 1) (kwM (k + 1))) := own2
      have HB2 := Lib.hid (HB.out.grown grow2 HB.out.size (fun j hj => by cases hj; exact Nat.le_refl _))
      have HK2 : Hid (Blk w2 (w.heap.size + 1) 9 (kwS.map fun l => Value.string ⟨l.toArray⟩).toArray) := (grow2.block (w.heap.size + 1) HK.out.lt (by simp)).trans HK.out
      clear own2 grow2 HM HB HK hc hkey
      go_wp2_with fail
      go_roundw
      case rel => exact ⟨k + 1, by go_num, by omega, HM2, HK2, HB2⟩
      case measure => simp [intOf]; omega
    · obtain rfl : k = 15 := by omega
      go_wp2_with fail
      go_ret
      exact ⟨_, rfl, Nat.le_refl _, HM.out, HB.out⟩
end Go.Proofs.YtkhddadhkkffnaaGreatDoor
