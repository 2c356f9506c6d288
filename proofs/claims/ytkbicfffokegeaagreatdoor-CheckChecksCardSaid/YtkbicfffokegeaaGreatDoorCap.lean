/-
  Whatever program is handed in, CheckChecks answers true. (part 16 of 38) Conditions: none beside what the card ties.
-/
import Derived.Test.YtkbicfffokegeaaGreatDoorCao
namespace Go.Proofs.YtkbicfffokegeaaGreatDoor
set_option maxHeartbeats 16000000
open Go.RowKit Go.Maps Go.WideMaps
set_option maxRecDepth 100000
structure Env9 (w:World):Prop where
 env:EnvOk w
 spc:Lib.TabIs Tryz.prog w "strings.asciiSpace" .u8 Lib.asciiSpaceTab
 rng:∃ev,w.cell? ⟨6,0,none⟩=some ev∧(ev=.nilIface∨∃te pe,ev=.iface te pe)
theorem Env9.below {w w':World}(h:Env9 w)(hb:Below w.heap.size w w'):Env9 w':=by
 refine⟨h.env.below hb,tI h.spc hb,?_⟩;obtain⟨ev,h1,h2⟩:=h.rng;have lt:6<w.heap.size:=World.block_lt_of_cell? _ _ h1;exact⟨ev,(hb.cell (p:=⟨6,0,none⟩) lt).trans h1,h2⟩
theorem aKT:Keyed Tryz.prog 9:=string_keyed Tryz.underlying9
theorem aMc (w:World):(zeroValue 3).run Tryz.prog w=.ok (.int .i64 0) w:=by kernel_rfl
def kwM:Nat→DataW Unit
 | 0=>.map []
 | k+1=>(kwM k).put (.string (kwS.getD k [])) (.lit (.int .i64 (k+1)))
theorem zH:∀k,IsMap (kwM k)
 | 0=>isMap_empty
 | k+1=>(zH k).put _ _
theorem aHS (l:List UInt8)(z:DataW Unit):∀k,k≤15→(∃c:Int,0<c∧(kwM k).atKey (.string l) z=.lit (.int .i64 c)∧(kwS.take k).contains l=true)∨((kwM k).atKey (.string l) z=z∧(kwS.take k).contains l=false)
 | 0,_=>.inr ⟨rfl,rfl⟩
 | k+1,h=>by
  have hl:k<kwS.length:=by show k<15;omega
  have et:kwS.take (k+1)=kwS.take k++[kwS.getD k []]:=by
   rw[List.take_add_one,List.getElem?_eq_getElem hl]
   simp[List.getD,List.getElem?_eq_getElem hl]
  by_cases e:l=kwS.getD k []
  ·refine .inl ⟨(k:Int)+1,by omega,?_,?_⟩
   ·rw[e]
    exact atKey_put_same (zH k) (by trivial) _ z
   ·rw[et,e]
    simp
  ·have hk:(kwM (k+1)).atKey (.string l) z=(kwM k).atKey (.string l) z:=atKey_put_other (by intro h;injection h with h;exact e h) _ z
   have hc:(kwS.take (k+1)).contains l=(kwS.take k).contains l:=by
    rw[et,Bool.eq_iff_iff];simp only[List.contains_iff_mem,List.mem_append,List.mem_singleton];exact⟨fun h=>h.resolve_right e,.inl⟩
   rw[hk,hc];exact aHS l z k (by omega)
def tA (w:World)(g:Nat):Prop:=w.ownsMap Tryz.prog 9 (plainElem (H:=Unit) Tryz.prog 3) g 15 (kwM 15)
theorem tA.below {w w':World}{g B:Nat}(h:tA w g)(hb:Below B w w')(hg:g<B):tA w' g:=by
 obtain⟨es,clock,h1,h2⟩:=h;exact⟨es,clock,(hb.block g hg).trans h1,h2⟩
theorem tA.lt {w:World}{g:Nat}(h:tA w g):g<w.heap.size:=World.ownsMap.lt h
theorem tA.alloc {w:World}{g:Nat}(h:tA w g)(o:Obj):tA (w.alloc o) g:=World.ownsMap.alloc h o
theorem tA.look {w:World}{g:Nat}(h:tA w g)(s:ByteArray)(hs:s.size≤1048576):∃c,(Instr.lookup 103 (.map (some g)) (.string s) false).run Tryz.prog w=.ok (.int .i64 c) w∧decide (0<c)=kwS.contains s.data.toList:=by
 obtain⟨c,h1,h2, -⟩:=World.ownsMap.lookup_int h aKT Tryz.underlying103 Tryz.underlying3 (aMc w) (keyOf_string_mk Tryz.underlying9 (s:=s) (by unfold maxLen;omega));refine⟨c,h1,?_⟩;have e15:kwS.take 15=kwS:=rfl;rcases aHS s.data.toList (.lit (.int .i64 0)) 15 (aD _) with⟨d,d0,d1,d2⟩|⟨d1,d2⟩
 ·rw[e15]at d2
  rw[d1]at h2;obtain rfl:d=c:=by injection h2 with h2;injection h2
  rw[d2,decide_eq_true d0]
 ·rw[e15]at d2
  rw[d1]at h2;obtain rfl:0=c:=by injection h2 with h2;injection h2
  rw[d2];rfl
def wO:ByteArray:=⟨#[116,105,99,107,115,32,105,110,112,117,116,32,118,97,114,32,105,110,105,116,32,115,116,101,112,32,105,102,32,101,108,115,101,32,102,111,114,32,116,114,117,101,32,102,97,108,115,101,32,105,110,116,32,102,108,111,97,116,32,98,111,111,108,32,97,98,115,32,105,110]⟩
theorem aFx:Lib.fields wO.data.toList=kwS:=by decide +kernel
theorem aFG (w:World)(hE:Env9 w):Calls Tryz.prog 78 #[.string wO] w fun e w'=>e=.returned (.slice (some ⟨w.heap.size,0,none⟩) 15 15)∧w'=w.alloc (.cells (kwS.map fun l=>Value.string ⟨l.toArray⟩).toArray 9):=by
 have:=lX wO w (by decide) (fun j b h=>(ascii_of_all (l:=wO.data.toList) (by decide)) j b h) hE.spc;rw[aFx]at this;exact this
theorem oS (w:World)(hE:Env9 w) :
  Calls Tryz.prog 53 #[] w fun e w'=>∃g,e=.returned (.map (some g))∧w.heap.size≤g∧tA w' g∧Below w.heap.size w w':=by
 have hmm:=@run_makeMap Tryz.prog;have F:=Hj (aFG (w.alloc (.map #[] 0)) (hE.below (aI (Below.refl _ _) _)));unfold wO at F;go_enter Tryz.func53,Tryz.ntmps53;go_wp2_with fail;refine F.out.mono ?_;rintro e w1 ⟨rfl,hw1⟩;rw[size_alloc];have HB1:Hid (Below w.heap.size w w1):=by show Below _ _ _;rw[hw1];exact aI (aI (Below.refl _ _) _) _
 have HM1:Hid (w1.ownsMap Tryz.prog 9 (plainElem (H:=Unit) Tryz.prog 3) w.heap.size 0 (kwM 0)):=by
  show World.ownsMap _ _ _ _ _ _ _;rw[hw1];exact(World.ownsMap_made w Tryz.prog 9 (plainElem (H:=Unit) Tryz.prog 3)).alloc _
 have HK1:Hid (Blk w1 (w.heap.size+1) 9 (kwS.map fun l=>Value.string ⟨l.toArray⟩).toArray):=by
  show Blk _ _ _ _;rw[hw1];have:=Blk.new (w.alloc (.map #[] 0)) 9 (kwS.map fun l=>Value.string ⟨l.toArray⟩).toArray;rw[size_alloc]at this;exact this
 clear hw1 F;go_wp2_with fail
 go_loopw [7] (fun s7 wr=>∃k:Nat,s7=.int .i64 (k:Int)∧k≤15∧Hid (wr.ownsMap Tryz.prog 9 (plainElem (H:=Unit) Tryz.prog 3) w.heap.size k (kwM k))∧Hid (Blk wr (w.heap.size+1) 9 (kwS.map fun l=>Value.string ⟨l.toArray⟩).toArray)∧Hid (Below w.heap.size w wr)) (fun s7 _=>15-(intOf s7).toNat)
 case atStart=>exact⟨0,rfl,by omega,HM1,HK1,HB1⟩
 case round=>
  obtain⟨k,rfl,hk,HM,HK,HB⟩:=hrel
  by_cases hlt:k<15
  ·obtain⟨s,hs⟩:∃s:ByteArray,s=⟨(kwS.getD k []).toArray⟩:=⟨_,rfl⟩
   have ds:s.data.toList=kwS.getD k []:=by rw[hs]
   have hc:wr.cell? ⟨w.heap.size+1,k,none⟩=some (.string s):=by
    have:k<kwS.length:=hlt;rw[HK.out.cell,hs]
    simp[List.getD,List.getElem?_eq_getElem this]
   have hz:s.size≤maxLen:=by
    rw[Lib.size_eq,ds];have:∀j,j<15→(kwS.getD j []).length≤10:=by decide
    have:=this k hlt;unfold maxLen;omega
   have hkey:keyOf Tryz.prog 9 (.string s)=some (.string (kwS.getD k [])):=by rw[keyOf_string_mk Tryz.underlying9 hz,ds]
   have ov:IntKind.i64.wrap ((k:Int)+1)=k+1:=by rw[IntKind.wrap_i64];omega
   have hl1:(k:Int)<15:=by omega
   clear hs ds hz hE
   go_wp2_with (first
    | (at_mapUpdate;refine wpList_mapUpdate_own _ rfl _ _ _ 103 rfl 9 3 aKT Tryz.underlying103 _ w.heap.size k _ rfl HM.out (by unfold maxLen;omega) _ _ _ rfl rfl hkey _ [] (plainElem_int Tryz.underlying3 (WalkArith.wf_i64 (by omega))) ?_)
    | fail)
   intro w2 own2 grow2;have HM2:Hid (w2.ownsMap Tryz.prog 9 (plainElem (H:=Unit) Tryz.prog 3) w.heap.size (k+1) (kwM (k+1))):=own2;have HB2:=Hj (HB.out.grown grow2 HB.out.size (fun j hj=>by cases hj;exact aD _));have HK2:Hid (Blk w2 (w.heap.size+1) 9 (kwS.map fun l=>Value.string ⟨l.toArray⟩).toArray):=(grow2.block (w.heap.size+1) HK.out.lt (by simp)).trans HK.out;clear own2 grow2 HM HB HK hc hkey;go_wp2_with fail
   go_roundw
   case rel=>exact⟨k+1,by go_num,by omega,HM2,HK2,HB2⟩
   case measure=>simp[intOf];omega
  ·obtain rfl:k=15:=by omega
   go_wp2_with fail;go_ret;exact⟨_,rfl,aD _,HM.out,HB.out⟩
end Go.Proofs.YtkbicfffokegeaaGreatDoor
namespace Go.Proofs.YtkbicfffokegeaaGreatDoor
set_option maxHeartbeats 16000000
open Go.RowKit Go.Maps
set_option maxRecDepth 100000
def mL (w:World)(g:Nat)(a b c d e:Value):World:=((((w.setCell ⟨g,0,none⟩ a).setCell ⟨g,1,none⟩ b).setCell ⟨g,2,none⟩ c).setCell ⟨g,3,none⟩ d).setCell ⟨g,4,none⟩ e
section
variable {w w':World} {g:Nat} {t:TypeId}
theorem Blk.put5 {x y z u v:Value}(k:Blk w g t #[x,y,z,u,v])(a b c d e:Value):Blk (mL w g a b c d e) g t #[a,b,c,d,e]:=by
 have:=((((k.set_ 0 a).set_ 1 b).set_ 2 c).set_ 3 d).set_ 4 e
 simpa [mL] using this
theorem gX {B:Nat}(h:Below B w w')(hg:B≤g)(a b c d e:Value):Below B w (mL w' g a b c d e):=
 ((((h.setCell hg a).setCell hg b).setCell hg c).setCell hg d).setCell hg e
theorem Blk.five {x y z u v:Value}(k:Blk w g t #[x,y,z,u,v]):(w.cell? ⟨g,0,none⟩=some x∧w.cell? ⟨g,1,none⟩=some y∧w.cell? ⟨g,2,none⟩=some z∧w.cell? ⟨g,3,none⟩=some u∧w.cell? ⟨g,4,none⟩=some v) ∧
  (w.frozen? ⟨g,0,none⟩=false∧w.frozen? ⟨g,1,none⟩=false∧w.frozen? ⟨g,2,none⟩=false∧w.frozen? ⟨g,3,none⟩=false∧w.frozen? ⟨g,4,none⟩=false):=
 ⟨⟨k.cell 0,k.cell 1,k.cell 2,k.cell 3,k.cell 4⟩,k.frozen 0,k.frozen 1,k.frozen 2,k.frozen 3,k.frozen 4⟩
end
def tkA (t:Tk):Value:=.agg #[.int .u8 t.kd,.int .i64 t.ps,.string ⟨t.tx.toArray⟩,.int .i32 t.nn,.int .u64 t.ff]
def aDP (E:Int)(T:Tk)(w:World)(e:Ending)(w':World):Prop:=∃t:Tk,e=.returned (.tuple #[tkA t,.int .i64 E])∧(E=0→t=T)∧Below w.heap.size w w'
def wdE (l:List UInt8):Int:=if 32<l.length then 91 else 0
def wdT (l:List UInt8):Tk:=⟨if kwS.contains l then 4 else 1,0,l,0,0⟩
theorem aCC (k:Int)(s:ByteArray):tkA ⟨k,0,s.data.toList,0,0⟩=.agg #[.int .u8 k,.int .i64 0,.string s,.int .i32 0,.int .u64 0]:=by unfold tkA;rw[←aAe rfl]
theorem aCw (s:ByteArray)(g:Nat)(w:World)(hs:s.size≤1048576)(hK:tA w g) :
  Calls Tryz.prog 117 #[.string s,.map (some g)] w (aDP (wdE s.data.toList) (wdT s.data.toList) w):=by
 by_cases h:32<s.size
 ·have h':(32:Int)<(s.size:Int):=by omega
  have e:wdE s.data.toList=91:=by unfold wdE;rw[←Lib.size_eq,if_pos h]
  rw[e];go_enter Tryz.func117,Tryz.ntmps117;go_wp2_with fail;refine bodyPost_ret (by simp[results,Tryz.results117,go_sem];(try rfl)) rfl ⟨noT,rfl,fun h=>by omega,?_⟩;exact aI (Below.refl _ _) _
 ·have h':¬(32:Int)<(s.size:Int):=by omega
  have e:wdE s.data.toList=0:=by unfold wdE;rw[←Lib.size_eq,if_neg h]
  rw[e];obtain⟨c,hc,hd⟩:=(hK.alloc (.cells #[.int .u8 0,.int .i64 0,.string ⟨#[]⟩,.int .i32 0,.int .u64 0] 133)).look s hs
  cases hk:kwS.contains s.data.toList
  ·rw[hk,decide_eq_false_iff_not]at hd
   have eT:Hid (wdT s.data.toList=⟨1,0,s.data.toList,0,0⟩):=by show _=_;unfold wdT;rw[hk];rfl
   clear hk h e;go_enter Tryz.func117,Tryz.ntmps117;go_wp2_with fail;refine bodyPost_ret (by simp[results,Tryz.results117,go_sem];(try rfl)) rfl ⟨⟨1,0,s.data.toList,0,0⟩,?_,fun _=>eT.out.symm,?_⟩
   ·rw[aCC]
   ·exact aI (Below.refl _ _) _
  ·rw[hk,decide_eq_true_eq]at hd
   have eT:Hid (wdT s.data.toList=⟨4,0,s.data.toList,0,0⟩):=by show _=_;unfold wdT;rw[hk];rfl
   clear hk h e;go_enter Tryz.func117,Tryz.ntmps117;go_wp2_with fail;refine bodyPost_ret (by simp[results,Tryz.results117,go_sem];(try rfl)) rfl ⟨⟨4,0,s.data.toList,0,0⟩,?_,fun _=>eT.out.symm,?_⟩
   ·rw[aCC]
   ·exact aI (Below.refl _ _) _
def flE (l:List UInt8):Int:=if psE l=0 then 0 else 93
def flT (l:List UInt8):Tk:=⟨3,0,[],0,psF l⟩
theorem aBd (s:ByteArray)(w:World)(hs:s.size≤1048576)(ha:aEP s)(hE:EnvOk w) :
  Calls Tryz.prog 147 #[.string s] w (aDP (flE s.data.toList) (flT s.data.toList) w):=by
 have P:=Hj fun w hE=>aFo s w hs ha hE;have eE:flE s.data.toList=if psE s.data.toList=0 then 0 else 93:=rfl
 have eT:flT s.data.toList=⟨3,0,[],0,psF s.data.toList⟩:=rfl;generalize flE s.data.toList=E at *;generalize flT s.data.toList=T at *;generalize psF s.data.toList=f at *;generalize psE s.data.toList=p at *;have TT:=Hj eT;clear eT
 by_cases h:p=0
 ·subst h
  obtain rfl:E=0:=eE;go_enter Tryz.func147,Tryz.ntmps147;go_wp2_with fail;refine(P.out _ (hE.alloc _)).mono ?_;rintro e w1 ⟨rfl,hb⟩;have K:=Blk.made hb;have HB:=Hj (aG (aI (Below.refl _ _) _) hb);obtain⟨⟨c0,c1,c2,c3,c4⟩,f0,f1,f2,f3,f4⟩:=K.five;clear hb P;go_wp2_with fail;have K2:=K.put5 (.int .u8 3) (.int .i64 0) (.string ⟨#[]⟩) (.int .i32 0) (.int .u64 f);have HB2:=Hj (gX HB.out (aD _) (.int .u8 3) (.int .i64 0) (.string ⟨#[]⟩) (.int .i32 0) (.int .u64 f));unfold mL at K2 HB2;obtain⟨⟨q0,q1,q2,q3,q4⟩, -⟩:=K2.five;exact bodyPost_ret (by simp[results,Tryz.results147,go_sem,q0,q1,q2,q3,q4];(try rfl)) rfl ⟨⟨3,0,[],0,f⟩,rfl,fun _=>TT.out.symm,HB2.out⟩
 ·rw[if_neg h]at eE
  subst eE;have h':(p != 0)=true:=by simpa using h
  go_enter Tryz.func147,Tryz.ntmps147;go_wp2_with fail;refine(P.out _ (hE.alloc _)).mono ?_;rintro e w1 ⟨rfl,hb⟩;have K:=Blk.made hb;have HB:=Hj (aG (aI (Below.refl _ _) _) hb);obtain⟨⟨c0,c1,c2,c3,c4⟩,f0,f1,f2,f3,f4⟩:=K.five;clear hb P;go_wp2_with fail;have K2:=K.put5 (.int .u8 0) (.int .i64 0) (.string ⟨#[]⟩) (.int .i32 0) (.int .u64 0);have HB2:=Hj (gX HB.out (aD _) (.int .u8 0) (.int .i64 0) (.string ⟨#[]⟩) (.int .i32 0) (.int .u64 0));unfold mL at K2 HB2;obtain⟨⟨q0,q1,q2,q3,q4⟩, -⟩:=K2.five;exact bodyPost_ret (by simp[results,Tryz.results147,go_sem,q0,q1,q2,q3,q4];(try rfl)) rfl ⟨noT,rfl,fun h=>by omega,HB2.out⟩
theorem aGZ (M:Nat)(hM:M≤4294967295):∀(l:List UInt8) (a:Nat),a≤M→l.all bT=true→Lib.parseUintM M a l=if(l.foldl (fun n c=>n*10+((c.toNat:Int)-48)) (a:Int))≤M then .ok (l.foldl (fun n c=>n*10+((c.toNat:Int)-48)) (a:Int)).toNat else .range
 | [],a,ha,_=>by
  show Lib.NumEnd.ok a=if((a:Int))≤M then Lib.NumEnd.ok ((a:Int).toNat)else .range
  rw[if_pos (by omega),Int.toNat_natCast]
 | c::l,a,ha,h=>by
  rw[List.all_cons,Bool.and_eq_true]at h;have h1:=h.1;unfold bT at h1;simp only[Bool.and_eq_true,decide_eq_true_eq]at h1;have e:((a:Int))*10+((c.toNat:Int)-48)=((a*10+(c.toNat-48):Nat):Int):=by omega
  rw[List.foldl_cons,e];unfold Lib.parseUintM;rw[if_pos h1,if_neg (by omega)]
  by_cases hb:M<a*10+(c.toNat-48)
  ·rw[if_pos hb,if_neg]
   have mono:∀(l:List UInt8) (x:Int),0≤x→l.all bT=true→x≤l.foldl (fun n c=>n*10+((c.toNat:Int)-48)) x:=by
    intro l
    induction l with
    | nil=>intro x _ _;exact Int.le_refl _
    | cons d l ih=>
     intro x hx hd;rw[List.all_cons,Bool.and_eq_true]at hd;have h2:=hd.1;unfold bT at h2;simp only[Bool.and_eq_true,decide_eq_true_eq]at h2;rw[List.foldl_cons];exact Int.le_trans (by omega) (ih _ (by omega) hd.2)
   have:=mono l ((a*10+(c.toNat-48):Nat):Int) (by omega) h.2;omega
  ·rw[if_neg hb]
   exact aGZ M hM l _ (by omega) h.2
theorem aLC {l:List UInt8}(h:fF l=true):Lib.parseIntB 32 l=if cX l≤2147483647 then .ok (cX l)else .range:=by
 obtain⟨ha,hn⟩:=gU h;have hv:=(iN ha).1
 cases l with
 | nil=>exact absurd rfl hn
 | cons c l=>
  have h1:=ha;rw[List.all_cons,Bool.and_eq_true]at h1;have h1:=h1.1;unfold bT at h1;simp only[Bool.and_eq_true,decide_eq_true_eq]at h1
  have e:Lib.parseUintB 32 (c::l)=if cX (c::l)≤4294967295 then .ok (cX (c::l)).toNat else .range:=by
   unfold Lib.parseUintB;rw[if_neg hn,show 2 ^ 32-1=4294967295 from rfl,aGZ 4294967295 (by decide) _ 0 (by decide) ha];rfl
  unfold Lib.parseIntB;dsimp only;rw[if_neg (by omega:¬(c.toNat=43∨c.toNat=45)),e];generalize cX (c::l)=v at *
  by_cases h2:v≤2147483647
  ·rw[if_pos (by omega),if_pos h2]
   dsimp only;rw[if_neg (by rw[show 2 ^ (32-1)=2147483648 from rfl];omega),if_neg (by omega),if_neg (by omega),Int.toNat_of_nonneg hv]
  ·rw[if_neg h2]
   by_cases h3:v≤4294967295
   ·rw[if_pos h3]
    dsimp only;rw[if_pos (by rw[show 2 ^ (32-1)=2147483648 from rfl];omega)]
   ·rw[if_neg h3]
def nmE (l:List UInt8)(b:Bool):Int:=if 400<l.length then 91 else if b then flE l else if cX l≤2147483647 then 0 else 92
def nmT (l:List UInt8)(b:Bool):Tk:=if b then flT l else⟨2,0,[],cX l,0⟩
theorem aER (s:ByteArray)(b:Bool)(w:World)(hs:s.size≤1048576)(ha:aEP s)(hd:b=false→fF s.data.toList=true)(hE:Env9 w) :
  Calls Tryz.prog 119 #[.string s,.bool b] w (aDP (nmE s.data.toList b) (nmT s.data.toList b) w):=by
 by_cases h:400<s.size
 ·have h':(400:Int)<(s.size:Int):=by omega
  have e:nmE s.data.toList b=91:=by unfold nmE;rw[←Lib.size_eq,if_pos h]
  rw[e];go_enter Tryz.func119,Tryz.ntmps119;go_wp2_with fail;refine bodyPost_ret (by simp[results,Tryz.results119,go_sem];(try rfl)) rfl ⟨noT,rfl,fun h=>by omega,?_⟩;exact aI (Below.refl _ _) _
 ·have h':¬(400:Int)<(s.size:Int):=by omega
  cases b
  ·have hd':=hd rfl
   have e:nmE s.data.toList false=if cX s.data.toList≤2147483647 then 0 else 92:=by unfold nmE;rw[←Lib.size_eq,if_neg h,if_neg (by decide)]
   have eT:Hid (nmT s.data.toList false=⟨2,0,[],cX s.data.toList,0⟩):=rfl;have PI:=aLC hd';have vb:=(iN (gU hd').1).1;rw[e]
   by_cases hv:cX s.data.toList≤2147483647
   ·rw[if_pos hv]at PI ⊢
    have C:=Hj fun w=>iE s (by omega) _ PI w;clear PI e ha hd hd' h;generalize cX s.data.toList=v at *;generalize nmT s.data.toList false=T at *;have ov:IntKind.i32.wrap v=v:=by rw[IntKind.wrap_i32];omega
    go_enter Tryz.func119,Tryz.ntmps119;go_wp2_with fail;refine(C.out _).mono ?_;rintro e w1 ⟨rfl,hw⟩
    have hb:Below (w.alloc (.cells #[.int .u8 0,.int .i64 0,.string ⟨#[]⟩,.int .i32 0,.int .u64 0] 133)).heap.size (w.alloc (.cells #[.int .u8 0,.int .i64 0,.string ⟨#[]⟩,.int .i32 0,.int .u64 0] 133)) w1:=by
     rcases hw with rfl|⟨t,rfl⟩
     ·exact Below.refl _ _
     ·exact Lib.bytesWorld_below _ _ _
    have K:=Blk.made hb;have HB:=Hj (aG (aI (Below.refl _ _) _) hb);obtain⟨⟨c0,c1,c2,c3,c4⟩,f0,f1,f2,f3,f4⟩:=K.five;clear hb hw C;go_wp2_with fail;have K2:=K.put5 (.int .u8 2) (.int .i64 0) (.string ⟨#[]⟩) (.int .i32 v) (.int .u64 0);have HB2:=Hj (gX HB.out (aD _) (.int .u8 2) (.int .i64 0) (.string ⟨#[]⟩) (.int .i32 v) (.int .u64 0));unfold mL at K2 HB2;obtain⟨⟨q0,q1,q2,q3,q4⟩, -⟩:=K2.five;exact bodyPost_ret (by simp[results,Tryz.results119,go_sem,q0,q1,q2,q3,q4];(try rfl)) rfl ⟨⟨2,0,[],v,0⟩,rfl,fun _=>eT.out.symm,HB2.out⟩
   ·rw[if_neg hv]at PI ⊢
    obtain⟨ev,h1,h2⟩:=(hE.below (aI (Below.refl _ _) (.cells #[.int .u8 0,.int .i64 0,.string ⟨#[]⟩,.int .i32 0,.int .u64 0] 133))).rng;have C:=Hj (gI s (by omega) PI ev _ h1 h2);clear PI e ha hd hd' h h1 h2;go_enter Tryz.func119,Tryz.ntmps119;go_wp2_with fail;refine C.out.mono ?_;rintro e w1 ⟨n,rfl, -, -,hb⟩;have K:=Blk.made hb;have HB:=Hj (aG (aI (Below.refl _ _) _) hb);obtain⟨⟨c0,c1,c2,c3,c4⟩,f0,f1,f2,f3,f4⟩:=K.five;clear hb C;go_wp2_with fail;have K2:=K.put5 (.int .u8 0) (.int .i64 0) (.string ⟨#[]⟩) (.int .i32 0) (.int .u64 0);have HB2:=Hj (gX HB.out (aD _) (.int .u8 0) (.int .i64 0) (.string ⟨#[]⟩) (.int .i32 0) (.int .u64 0));unfold mL at K2 HB2;obtain⟨⟨q0,q1,q2,q3,q4⟩, -⟩:=K2.five;exact bodyPost_ret (by simp[results,Tryz.results119,go_sem,q0,q1,q2,q3,q4];(try rfl)) rfl ⟨noT,rfl,fun h=>by omega,HB2.out⟩
  ·have e:nmE s.data.toList true=flE s.data.toList:=by unfold nmE;rw[←Lib.size_eq,if_neg h,if_pos rfl]
   have eT:nmT s.data.toList true=flT s.data.toList:=rfl;rw[e,eT];have C:=Hj (aBd s (w.alloc (.cells #[.int .u8 0,.int .i64 0,.string ⟨#[]⟩,.int .i32 0,.int .u64 0] 133)) hs ha (hE.env.alloc _));clear e eT ha hd h;generalize flE s.data.toList=E at *;generalize flT s.data.toList=T at *;go_enter Tryz.func119,Tryz.ntmps119;go_wp2_with fail;refine C.out.mono ?_;rintro e w1 ⟨⟨k,a,x,n,f⟩,rfl,hT,hb⟩;have HT:=Hj hT;have K:=Blk.made hb;have HB:=Hj (aG (aI (Below.refl _ _) _) hb);obtain⟨⟨c0,c1,c2,c3,c4⟩,f0,f1,f2,f3,f4⟩:=K.five;clear hb C hT;unfold tkA;dsimp only;go_wp2_with fail;have K2:=K.put5 (.int .u8 k) (.int .i64 a) (.string ⟨x.toArray⟩) (.int .i32 n) (.int .u64 f);have HB2:=Hj (gX HB.out (aD _) (.int .u8 k) (.int .i64 a) (.string ⟨x.toArray⟩) (.int .i32 n) (.int .u64 f));unfold mL at K2 HB2;obtain⟨⟨q0,q1,q2,q3,q4⟩, -⟩:=K2.five;exact bodyPost_ret (by simp[results,Tryz.results119,go_sem,q0,q1,q2,q3,q4];(try rfl)) rfl ⟨⟨k,a,x,n,f⟩,rfl,HT.out,HB2.out⟩
def pN (l:List UInt8)(w:World)(e:Ending)(w':World):Prop:=∃(t:Tk) (n:Int),e=.returned (.tuple #[tkA t,.int .i64 n,.int .i64 (fiE l)])∧(fiE l=0→t=fiT l 0∧n=(fiN l:Int))∧Below w.heap.size w w'
theorem aJJ (l:List UInt8):∀(j:Nat) (b:UInt8),(l.take (nuL l))[j]? = some b→b.toNat<128:=by
 intro j b hb
 by_cases hj:j<nuL l
 ·rw[List.getElem?_take,if_pos hj]at hb
  obtain⟨c,e,h⟩:=aLP l j hj;rw[hb]at e;obtain rfl:=Option.some.inj e;rcases h with h|⟨rfl, -⟩|⟨-,(rfl|rfl)|⟨rfl|rfl, -⟩⟩
  ·unfold bT at h
   simp only[Bool.and_eq_true,decide_eq_true_eq]at h;omega
  all_goals decide
 ·rw[List.getElem?_take,if_neg hj]at hb
  cases hb
theorem aJI {l:List UInt8}(h0:nuL l≠0)(hF:nuF l=false):fF (l.take (nuL l))=true:=by
 have hd:dgL l≠0:=fun h=>h0 (by unfold nuL;rw[if_pos h])
 have he:nuL l≤dgL l:=by
  unfold nuF at hF
  simpa using hF
 refine aEF (List.all_eq_true.2 fun b hb=>?_) ?_
 ·obtain⟨j,hj⟩:=List.getElem?_of_mem hb
  by_cases hl:j<nuL l
  ·rw[List.getElem?_take,if_pos hl]at hj
   obtain⟨c,e1,e2⟩:=zO l j (by omega);rw[hj]at e1;obtain rfl:=Option.some.inj e1;exact e2
  ·rw[List.getElem?_take,if_neg hl]at hj
   cases hj
 ·intro e
  have:=congrArg List.length e;have h1:=aDi l;rw[List.length_take,List.length_nil]at this;omega
theorem jQ (s:ByteArray)(k:Nat):(s.extract 0 k).data.toList=s.data.toList.take k:=sN s k
theorem aCx (s:ByteArray)(g:Nat)(w:World)(hs:s.size≤1048576)(hE:Env9 w)(hK:tA w g) :
  Calls Tryz.prog 96 #[.string s,.map (some g)] w (pN s.data.toList w):=by
 have N:=Hj fun w=>yK s w;have nb:=aHC s.data.toList;rw[←Lib.size_eq]at nb
 by_cases h1:nmL s.data.toList=0
 ·have U:=Hj fun w=>aBa s w hs
  have ub:=aDi s.data.toList;rw[←Lib.size_eq]at ub;rw[h1]at N;clear nb
  by_cases h2:nuL s.data.toList=0
  ·have S:=Hj fun w=>aEQ s w
   have sb:=(aGv s.data.toList).1;rw[←Lib.size_eq]at sb;rw[h2]at U;clear ub;generalize nuF s.data.toList=fl at *
   by_cases h3:siL s.data.toList=0
   ·have hE':fiE s.data.toList=90:=by unfold fiE;rw[if_neg (by omega),if_neg (by omega),if_neg (by omega)]
    rw[h3]at S;unfold pN;rw[hE'];clear hE' h1 h2 h3 sb;go_enter Tryz.func96,Tryz.ntmps96;go_wp2_with fail;refine(N.out _).mono ?_;rintro e w1 ⟨rfl,hb1⟩;have K1:=Blk.made hb1;have HB1:=Hj (aG (aI (Below.refl _ _) _) hb1);clear hb1 N hE hK;go_wp2_with fail;refine(U.out _).mono ?_;rintro e w2 ⟨rfl,hb2⟩;have K2:=K1.below hb2 K1.lt;have HB2:=Hj (aG HB1.out hb2);clear hb2 K1 HB1 U;go_wp2_with fail;refine(S.out _).mono ?_;rintro e w3 ⟨rfl,rfl⟩;obtain⟨⟨c0,c1,c2,c3,c4⟩,f0,f1,f2,f3,f4⟩:=K2.five;clear S;go_wp2_with fail;have K3:=K2.put5 (.int .u8 0) (.int .i64 0) (.string ⟨#[]⟩) (.int .i32 0) (.int .u64 0);have HB3:=Hj (gX HB2.out (aD _) (.int .u8 0) (.int .i64 0) (.string ⟨#[]⟩) (.int .i32 0) (.int .u64 0));unfold mL at K3 HB3;obtain⟨⟨q0,q1,q2,q3,q4⟩, -⟩:=K3.five;exact bodyPost_ret (by simp[results,Tryz.results96,go_sem,q0,q1,q2,q3,q4];(try rfl)) rfl ⟨noT,0,rfl,fun he=>by omega,HB3.out⟩
   ·have hE':fiE s.data.toList=0:=by unfold fiE;rw[if_neg (by omega),if_neg (by omega),if_pos h3]
    have hT':Hid ((⟨5,0,s.data.toList.take (siL s.data.toList),0,0⟩:Tk)=fiT s.data.toList 0):=by
     show _=_;unfold fiT;rw[if_neg (by omega),if_neg (by omega)]
    have hN':Hid ((siL s.data.toList:Int)=(fiN s.data.toList:Int)):=by show _=_;unfold fiN;rw[if_neg (by omega),if_neg (by omega)]
    unfold pN;rw[hE'];have h0:(0:Int)<(siL s.data.toList:Int):=by omega
    have hl:(siL s.data.toList:Int)≤(s.size:Int):=by omega
    have hx:=jQ s (siL s.data.toList);rw[←hx]at hT';generalize fiT s.data.toList 0=T0 at *;generalize fiN s.data.toList=N0 at *;generalize siL s.data.toList=n at *;clear hE' h1 h2 h3 sb hx;go_enter Tryz.func96,Tryz.ntmps96;go_wp2_with fail;refine(N.out _).mono ?_;rintro e w1 ⟨rfl,hb1⟩;have K1:=Blk.made hb1;have HB1:=Hj (aG (aI (Below.refl _ _) _) hb1);clear hb1 N hE hK;go_wp2_with fail;refine(U.out _).mono ?_;rintro e w2 ⟨rfl,hb2⟩;have K2:=K1.below hb2 K1.lt;have HB2:=Hj (aG HB1.out hb2);clear hb2 K1 HB1 U;go_wp2_with fail;refine(S.out _).mono ?_;rintro e w3 ⟨rfl,rfl⟩;obtain⟨⟨c0,c1,c2,c3,c4⟩,f0,f1,f2,f3,f4⟩:=K2.five;clear S;go_wp2_with fail;have K3:=K2.put5 (.int .u8 5) (.int .i64 0) (.string (s.extract 0 n)) (.int .i32 0) (.int .u64 0);have HB3:=Hj (gX HB2.out (aD _) (.int .u8 5) (.int .i64 0) (.string (s.extract 0 n)) (.int .i32 0) (.int .u64 0));unfold mL at K3 HB3;obtain⟨⟨q0,q1,q2,q3,q4⟩, -⟩:=K3.five;refine bodyPost_ret (by simp[results,Tryz.results96,go_sem,q0,q1,q2,q3,q4];(try rfl)) rfl ⟨⟨5,0,(s.extract 0 n).data.toList,0,0⟩,n,?_,fun _=>⟨hT'.out,hN'.out⟩,HB3.out⟩;rw[aCC]
  ·have hE':fiE s.data.toList=nmE (s.data.toList.take (nuL s.data.toList)) (nuF s.data.toList):=by
    unfold fiE nmE flE;rw[if_neg (by omega),if_pos h2,List.length_take,←Lib.size_eq,Nat.min_eq_left ub]
   have hT':Hid (nmT (s.data.toList.take (nuL s.data.toList)) (nuF s.data.toList)=fiT s.data.toList 0):=by
    show _=_;unfold nmT fiT flT
    cases nuF s.data.toList<;>simp[h1,h2]
   have hN':Hid ((nuL s.data.toList:Int)=(fiN s.data.toList:Int)):=by show _=_;unfold fiN;rw[if_neg (by omega),if_pos h2]
   have C:=Hj fun w hE=>aER (s.extract 0 (nuL s.data.toList)) (nuF s.data.toList) w (by rw[Lib.size_eq,jQ,List.length_take,←Lib.size_eq];omega) (fun j b hb=>aJJ s.data.toList j b (by rw[←jQ];exact hb)) (fun hf=>by rw[jQ];exact aJI h2 hf) hE;rw[jQ]at C;unfold pN;rw[hE'];clear hE';have h0:(0:Int)<(nuL s.data.toList:Int):=by omega
   have hl:(nuL s.data.toList:Int)≤(s.size:Int):=by omega
   generalize nmE (s.data.toList.take (nuL s.data.toList)) (nuF s.data.toList)=E at *;generalize nmT (s.data.toList.take (nuL s.data.toList)) (nuF s.data.toList)=T at *;generalize fiT s.data.toList 0=T0 at *;generalize fiN s.data.toList=N0 at *;generalize nuL s.data.toList=n at *;generalize nuF s.data.toList=fl at *;clear ub h1 h2;go_enter Tryz.func96,Tryz.ntmps96;go_wp2_with fail;refine(N.out _).mono ?_;rintro e w1 ⟨rfl,hb1⟩;have K1:=Blk.made hb1;have HB1:=Hj (aG (aI (Below.refl _ _) _) hb1);clear hb1 N hK;go_wp2_with fail;refine(U.out _).mono ?_;rintro e w2 ⟨rfl,hb2⟩;have K2:=K1.below hb2 K1.lt;have HB2:=Hj (aG HB1.out hb2);have HE2:=Hj (hE.below HB2.out);clear hb2 K1 HB1 U hE;go_wp2_with fail;refine(C.out _ HE2.out).mono ?_;rintro e w3 ⟨⟨k,a,x,m,f⟩,rfl,hT,hb3⟩;have HT:=Hj hT;have K3:=K2.below hb3 K2.lt;have HB3:=Hj (aG HB2.out hb3);obtain⟨⟨c0,c1,c2,c3,c4⟩,f0,f1,f2,f3,f4⟩:=K3.five;have lt3:=K3.lt;clear hb3 C hT K2 HB2 HE2;unfold tkA;dsimp only;go_wp2_with fail;have K4:=(K3.put5 (.int .u8 k) (.int .i64 a) (.string ⟨x.toArray⟩) (.int .i32 m) (.int .u64 f)).alloc (.cells #[.int .u8 k,.int .i64 a,.string ⟨x.toArray⟩,.int .i32 m,.int .u64 f] 133)
   have HB4:=Hj (aI (gX HB3.out (aD _) (.int .u8 k) (.int .i64 a) (.string ⟨x.toArray⟩) (.int .i32 m) (.int .u64 f)) (.cells #[.int .u8 k,.int .i64 a,.string ⟨x.toArray⟩,.int .i32 m,.int .u64 f] 133));unfold mL at K4 HB4;obtain⟨⟨q0,q1,q2,q3,q4⟩, -⟩:=K4.five;refine bodyPost_ret (by simp[results,Tryz.results96,go_sem,q0,q1,q2,q3,q4];(try rfl)) rfl ⟨⟨k,a,x,m,f⟩,n,rfl,fun he=>⟨?_,hN'.out⟩,HB4.out⟩;rw[HT.out he];exact hT'.out
 ·have hE':fiE s.data.toList=wdE (s.data.toList.take (nmL s.data.toList)):=by
   unfold fiE wdE;rw[if_pos h1,List.length_take,←Lib.size_eq,Nat.min_eq_left nb]
  have hT':Hid (wdT (s.data.toList.take (nmL s.data.toList))=fiT s.data.toList 0):=by
   show _=_;unfold wdT fiT;rw[if_pos h1]
  have hN':Hid ((nmL s.data.toList:Int)=(fiN s.data.toList:Int)):=by show _=_;unfold fiN;rw[if_pos h1]
  have C:=Hj fun w hK=>aCw (s.extract 0 (nmL s.data.toList)) g w (by rw[Lib.size_eq,jQ,List.length_take,←Lib.size_eq];omega) hK;rw[jQ]at C;unfold pN;rw[hE'];clear hE';have h0:(0:Int)<(nmL s.data.toList:Int):=by omega
  have hl:(nmL s.data.toList:Int)≤(s.size:Int):=by omega
  generalize wdE (s.data.toList.take (nmL s.data.toList))=E at *;generalize wdT (s.data.toList.take (nmL s.data.toList))=T at *;generalize fiT s.data.toList 0=T0 at *;generalize fiN s.data.toList=N0 at *;generalize nmL s.data.toList=n at *;clear nb h1;go_enter Tryz.func96,Tryz.ntmps96;go_wp2_with fail;refine(N.out _).mono ?_;rintro e w1 ⟨rfl,hb1⟩;have K1:=Blk.made hb1;have HB1:=Hj (aG (aI (Below.refl _ _) _) hb1);have HK1:=Hj (hK.below HB1.out hK.lt);clear hb1 N hE hK;go_wp2_with fail;refine(C.out _ HK1.out).mono ?_;rintro e w2 ⟨⟨k,a,x,m,f⟩,rfl,hT,hb2⟩;have HT:=Hj hT;have K2:=K1.below hb2 K1.lt;have HB2:=Hj (aG HB1.out hb2);obtain⟨⟨c0,c1,c2,c3,c4⟩,f0,f1,f2,f3,f4⟩:=K2.five;have lt2:=K2.lt;clear hb2 C hT K1 HK1 HB1;unfold tkA;dsimp only;go_wp2_with fail;have K3:=(K2.put5 (.int .u8 k) (.int .i64 a) (.string ⟨x.toArray⟩) (.int .i32 m) (.int .u64 f)).alloc (.cells #[.int .u8 k,.int .i64 a,.string ⟨x.toArray⟩,.int .i32 m,.int .u64 f] 133);have HB3:=Hj (aI (gX HB2.out (aD _) (.int .u8 k) (.int .i64 a) (.string ⟨x.toArray⟩) (.int .i32 m) (.int .u64 f)) (.cells #[.int .u8 k,.int .i64 a,.string ⟨x.toArray⟩,.int .i32 m,.int .u64 f] 133));unfold mL at K3 HB3
  obtain⟨⟨q0,q1,q2,q3,q4⟩, -⟩:=K3.five;refine bodyPost_ret (by simp[results,Tryz.results96,go_sem,q0,q1,q2,q3,q4];(try rfl)) rfl ⟨⟨k,a,x,m,f⟩,n,rfl,fun he=>⟨?_,hN'.out⟩,HB3.out⟩;rw[HT.out he];exact hT'.out
def aAd (t:Tk):List Value:=[.int .u8 t.kd,.int .i64 t.ps,.string ⟨t.tx.toArray⟩,.int .i32 t.nn,.int .u64 t.ff]
def rM (ts:List Tk):List Value:=ts.flatMap aAd
theorem yS (ts:List Tk)(t:Tk):rM (ts++[t])=rM ts++aAd t:=by unfold rM;simp
theorem aGn:(Tryz.prog.info? 133).map (fun i=>(i.zero,i.size,i.bytes))=some (some (.agg #[.int .u8 0,.int .i64 0,.string ⟨#[]⟩,.int .i32 0,.int .u64 0]),5,48):=by kernel_rfl
theorem bE {w w':World}{B:Nat}{t:TypeId}{k:Nat}{v:Value}{n:Nat}{xs:List Value}(h:w.ownsRow B t k v n xs)(hb:Below w.heap.size w w'):w'.ownsRow B t k v n xs:=by
 refine⟨h.1,?_⟩;rcases h.2 with h2|⟨g,cap,cur,e,hB,hh,r⟩
 ·exact .inl h2
 ·have lt:g<w.heap.size:=(Array.getElem?_eq_some_iff.1 hh).1
  exact .inr ⟨g,cap,cur,e,hB,(hb.block g lt).trans hh,r⟩
theorem nV {B C:Nat}{t:TypeId}{k:Nat}{v:Value}{n:Nat}{xs:List Value}{w:World}(hBC:C≤B)(h:w.ownsRow B t k v n xs):w.ownsRow C t k v n xs:=by
 refine⟨h.1,?_⟩;rcases h.2 with h2|⟨g,cap,cur,e,hb,r⟩
 ·exact .inl h2
 ·exact .inr ⟨g,cap,cur,e,aF hBC hb,r⟩
theorem pF {B:Nat}{w wr w1:World}{t:TypeId}{k:Nat}{v:Value}{n:Nat}{xs:List Value}(HB:Below B w wr)(hB:B≤wr.heap.size)(own:wr.ownsRow B t k v n xs)(hg:wr.grownBy w1 v.ownBlock):Below B w w1:=by
 refine HB.grown hg hB fun g e=>?_;rcases own.2 with⟨rfl,_⟩|⟨g',cap,cur,rfl,hb,_⟩
 ·cases e
 ·simp[Value.ownBlock]at e
  omega
theorem aDI (w:World)(o:Obj)(t:TypeId)(cs:Array Value):Blk ((w.alloc o).alloc (.cells cs t)) (w.heap.size+1) t cs:=by
 have:=Blk.new (w.alloc o) t cs;rw[size_alloc]at this;exact this
theorem Blk.news {w:World}{g:Nat}{t:TypeId}{cs:Array Value}(h:Blk w g t cs):∀(j:Nat) (u:Value),cs.toList[j]? = some u→w.cell? ((⟨g,0,none⟩:Addr).add j)=some u:=by
 intro j u hj
 have e:((⟨g,0,none⟩:Addr).add j)=⟨g,j,none⟩:=by
  simp[Addr.add]
  exact fun h=>h.symm
 rw[e,h.cell j,←Array.getElem?_toList];exact hj
def aMz (r:List Tk×Int×Nat)(w:World)(e:Ending)(w':World):Prop:=
 ∃v:Value,e=.returned (.tuple #[v,.int .i64 r.2.1,.int .i64 r.2.2])∧w'.ownsRow w.heap.size 133 5 v r.1.length (rM r.1)∧Below w.heap.size w w'
def yI (ts:List Tk)(r:List Tk×Int×Nat):List Tk×Int×Nat:=if r.2.1≠0 then([],r.2) else(ts++r.1,r.2)
theorem aII (r:List Tk×Int×Nat)(h:r.2.1≠0→r.1=[]):yI [] r=r:=by
 unfold yI;obtain⟨a,b⟩:=r;split
 ·rename_i h1;rw[show a=[]from h h1]
 ·rfl
theorem aFW (ts:List Tk){l:List UInt8}{a:Nat}(h0:l≠[])(h:fiE l=0):yI ts (lxF (l.length+1) l a)=yI (ts++[fiT l a]) (lxF ((gp (l.drop (fiN l))).length+1) (gp (l.drop (fiN l))) (a+fiN l+gpN (l.drop (fiN l)))):=by
 have hl:=nA h;rw[nZ _ a h0 h,wL l.length ((gp (l.drop (fiN l))).length+1) _ _ (by omega) (by omega)];generalize lxF ((gp (l.drop (fiN l))).length+1) (gp (l.drop (fiN l))) (a+fiN l+gpN (l.drop (fiN l)))=r;dsimp only;unfold yI
 by_cases h1:r.2.1=0
 ·rw[if_neg (c:=r.2.1≠0) (by omega),if_neg (by dsimp only;omega),if_neg (by omega)]
  simp
 ·rw[if_pos (c:=r.2.1≠0) h1,if_pos (by exact h1),if_pos h1]
theorem aHJ {s:List UInt8}(h:s.length≤16384):gJ s=yI [] (lxF ((gp s).length+1) (gp s) (gpN s)):=by
 have hg:=jF s
 have e:gJ s=lxF ((gp s).length+1) (gp s) (gpN s):=by
  unfold gJ;rw[if_neg (by omega),wL (s.length+1) ((gp s).length+1) _ _ (by omega) (by omega)]
 rw[←e,aII];intro h1;exact(aHK h h1).1
theorem aAH (s:List UInt8)(a n:Nat){l:List UInt8}(h:s.drop a=l):s.drop (a+n)=l.drop n:=by rw[←h,List.drop_drop]
theorem aGc (s:ByteArray)(w:World)(hE:Env9 w) :
  Calls Tryz.prog 79 #[.string s] w (aMz (gJ s.data.toList) w):=by
 by_cases hbig:16384<s.size
 ·have h':(16384:Int)<(s.size:Int):=by omega
  have e:gJ s.data.toList=([],91,0):=by unfold gJ;rw[if_pos (by rw[←Lib.size_eq];exact hbig)]
  rw[e];go_enter Tryz.func79,Tryz.ntmps79;go_wp2_with fail;exact bodyPost_ret (by simp[results,Tryz.results79,go_sem];(try rfl)) rfl ⟨_,rfl,⟨rfl,.inl ⟨rfl,rfl⟩⟩,Below.refl _ _⟩
 ·have h':¬(16384:Int)<(s.size:Int):=by omega
  obtain⟨i0,hi,hz0,hz1,hz2⟩:=info_parts aGn;have HI:=Hj hi;have HZ0:=Hj hz0;have HZ1:=Hj hz1;have HZ2:=Hj hz2;clear hi hz0 hz1 hz2;have KW:=Hj (oS w hE);have GP:=Hj fun w hE=>aBc s w (by omega) hE;have LV:Hid (gJ s.data.toList=yI [] (lxF ((gp s.data.toList).length+1) (gp s.data.toList) (gpN s.data.toList))):=aHJ (by rw[←Lib.size_eq];omega);have gl:gpN s.data.toList≤s.size:=by rw[Lib.size_eq];exact aIc _
  have gd:Hid (s.data.toList.drop (gpN s.data.toList)=gp s.data.toList):=aEv _;have HE:=Hj hE;clear hE hbig;generalize gp s.data.toList=l0 at *;generalize gpN s.data.toList=a0 at *;generalize gJ s.data.toList=R at *;go_enter Tryz.func79,Tryz.ntmps79;go_wp2_with fail;refine KW.out.mono ?_;rintro e w1 ⟨g,rfl,hg,hK,hb1⟩;have HK1:=Hj hK;have HE1:=Hj (HE.out.below hb1);have HB1:=Hj hb1;have lg:=hK.lt;clear hb1 KW HE hK hg;go_wp2_with fail;refine(GP.out _ HE1.out.env).mono ?_;rintro e w2 ⟨rfl,hb2⟩;have HB2:=Hj hb2;clear hb2 GP;go_wp2_with fail
  go_loopw [5,7] (fun s5 s7 wr=>∃(ts:List Tk) (l:List UInt8) (a:Nat),s7=.int .i64 (a:Int)∧a≤s.size∧ts.length≤a∧Hid (s.data.toList.drop a=l)∧Hid (R=yI ts (lxF (l.length+1) l a))∧Hid (wr.ownsRow w1.heap.size 133 5 s5 ts.length (rM ts))∧Hid (Below w1.heap.size w1 wr)) (fun _ s7 _=>s.size-(intOf s7).toNat)
  case atStart=>exact⟨[],l0,a0,rfl,gl,Nat.zero_le _,gd,LV,⟨rfl,.inl ⟨rfl,rfl⟩⟩,HB2⟩
  case round=>
   obtain⟨ts,l,a,rfl,ha,ht,HL,HR,HO,HB⟩:=hrel;clear LV gd gl HB2;have al:l.length=s.size-a:=by rw[←HL.out,List.length_drop,←Lib.size_eq]
   have HEr:=Hj (HE1.out.below HB.out)
   by_cases hlt:a<s.size
   ·have h1:(a:Int)<(s.size:Int):=by omega
    have h2:(a:Int)≤(s.size:Int):=by omega
    have hne:l≠[]:=fun e=>by rw[e]at al;simp at al;omega
    have dl:(s.extract a s.size).data.toList=l:=by rw[iW];exact HL.out
    have F:=Hj (aCx (s.extract a s.size) g wr (by rw[Lib.size_eq,dl];omega) HEr.out (HK1.out.below HB.out lg));rw[dl]at F
    by_cases he:fiE l=0
    ·have fp:=aAE he
     have fl:=aAF l;have gl2:=aIc (l.drop (fiN l));rw[List.length_drop]at gl2;have HR2:Hid (R=yI (ts++[fiT l a]) (lxF ((gp (l.drop (fiN l))).length+1) (gp (l.drop (fiN l))) (a+fiN l+gpN (l.drop (fiN l))))):=HR.out.trans (aFW ts hne he);have d2:(s.extract (a+fiN l) s.size).data.toList=l.drop (fiN l):=by rw[iW];exact aAH _ _ _ HL.out
     have GG:=Hj fun w hE=>aBc (s.extract (a+fiN l) s.size) w (by rw[Lib.size_eq,d2,List.length_drop];omega) hE;rw[d2]at GG
     have HL2:Hid (s.data.toList.drop (a+fiN l+gpN (l.drop (fiN l)))=gp (l.drop (fiN l))):=by
      show _=_;rw[aAH _ (a+fiN l) (gpN (l.drop (fiN l))) (aAH _ a (fiN l) HL.out)];exact aEv _
     have TA:Hid (aAd (fiT l a)=[.int .u8 (fiT l 0).kd,.int .i64 (a:Int),.string ⟨(fiT l 0).tx.toArray⟩,.int .i32 (fiT l 0).nn,.int .u64 (fiT l 0).ff]):=by
      show _=_;unfold aAd fiT;split
      ·rfl
      ·split
       ·split<;>rfl
       ·rfl
     unfold pN at F;rw[he]at F;clear dl d2 HL HR he hne;generalize gp (l.drop (fiN l))=l2 at *;generalize gpN (l.drop (fiN l))=g2 at *;generalize fiT l a=T at *;generalize fiT l 0=T0 at *;generalize fiN l=n at *;have ov1:IntKind.i64.wrap ((a:Int)+n)=((a+n:Nat):Int):=by rw[IntKind.wrap_i64];omega
     have ov2:IntKind.i64.wrap (((a+n:Nat):Int)+g2)=((a+n+g2:Nat):Int):=by rw[IntKind.wrap_i64];omega
     have h3:(((a+n:Nat)):Int)≤(s.size:Int):=by omega
     go_wp2_with fail;refine F.out.mono ?_;rintro e w3 ⟨⟨k,x,y,m,f⟩,n',rfl,hT,hb3⟩;obtain⟨rfl,rfl⟩:=hT (by first|rfl|trivial);have HB3:=Hj (aG HB.out hb3);have HO3:=Hj (bE HO.out hb3);clear hb3 F HB HO HEr hT;unfold tkA;dsimp only at TA ⊢
     go_wp2_with (at_builtin;refine wpList_append_own _ rfl _ _ 125 rfl w1.heap.size 133 i0 (.agg #[.int .u8 0,.int .i64 0,.string ⟨#[]⟩,.int .i32 0,.int .u64 0]) 5 48 Tryz.underlying125 HI.out HZ0.out HZ1.out HZ2.out rfl (by decide) _ _ _ rfl ((HO3.out.alloc _).alloc _) ⟨w3.heap.size+1,0,none⟩ 1 1 [.int .u8 k,.int .i64 (a:Int),.string ⟨y.toArray⟩,.int .i32 m,.int .u64 f] rfl rfl ?c1 ?c2 ?c3 ?c4 ?c5 ?_)
     case c1=>exact(aDI w3 _ _ _).news
     case c2=>intro u hu;simp at hu;rcases hu with rfl|rfl|rfl|rfl|rfl<;>rfl
     case c3=>unfold maxLen;omega
     case c4=>omega
     case c5=>have:=HB3.out.size;simp;omega
     intro v' w4 own' hgrow hnil;clear hnil;have HB4:=Hj (pF (aI (aI HB3.out _) _) (by have:=HB3.out.size;simp;omega) ((HO3.out.alloc _).alloc _) hgrow)
     have HO4:Hid (w4.ownsRow w1.heap.size 133 5 v' (ts++[T]).length (rM (ts++[T]))):=by
      show World.ownsRow _ _ _ _ _ _ _;rw[yS,TA.out,List.length_append];exact own'
     have HE4:=Hj (HE1.out.below HB4.out);have tl:(ts++[T]).length≤a+n+g2:=by rw[List.length_append,List.length_singleton];omega
     clear own' hgrow HB3 HO3 TA;go_wp2_with fail;refine(GG.out _ HE4.out.env).mono ?_;rintro e w5 ⟨rfl,hb5⟩;have HB5:=Hj (aG HB4.out hb5);have HO5:=Hj (bE HO4.out hb5);clear hb5 GG HB4 HO4 HE4;go_wp2_with fail
     go_roundw
     case rel=>exact⟨ts++[T],l2,a+n+g2,rfl,by omega,tl,HL2,HR2,HO5,HB5⟩
     case measure=>simp[intOf];omega
    ·have e':R=([],fiE l,a):=by
      rw[HR.out,qM _ _ hne he];unfold yI;rw[if_pos (by exact he)]
     have HRR:=Hj e';have hne':(fiE l != 0)=true:=by simpa using he
     have HI2:=HB1;clear dl HL HR he hne al e';unfold pN at F;generalize fiE l=E at *;go_wp2_with fail;refine F.out.mono ?_;rintro e w3 ⟨⟨k,x,y,m,f⟩,n',rfl,hT,hb3⟩;have HB3:=Hj (aG HB1.out (aG HB.out hb3));clear hb3 F HB HO HEr hT;unfold tkA;dsimp only;go_wp2_with fail;refine bodyPost_ret (by simp[results,Tryz.results79,go_sem];(try rfl)) rfl ⟨.slice none 0 0,?_,⟨?_,.inl ⟨rfl,?_⟩⟩,?_⟩
     ·rw[HRR.out]
     iterate 2
      ·rw[HRR.out];rfl
     ·exact aI HB3.out _
   ·obtain rfl:a=s.size:=by omega
    obtain rfl:l=[]:=List.eq_nil_of_length_eq_zero (by omega);have e':R=(ts++[enT s.size],0,0):=HR.out;have HRR:=Hj e';clear HL HR e' al
    go_wp2_with (at_builtin;refine wpList_append_own _ rfl _ _ 125 rfl w1.heap.size 133 i0 (.agg #[.int .u8 0,.int .i64 0,.string ⟨#[]⟩,.int .i32 0,.int .u64 0]) 5 48 Tryz.underlying125 HI.out HZ0.out HZ1.out HZ2.out rfl (by decide) _ _ _ rfl (HO.out.alloc _) ⟨wr.heap.size,0,none⟩ 1 1 [.int .u8 0,.int .i64 (s.size:Int),.string ⟨#[]⟩,.int .i32 0,.int .u64 0] rfl rfl ?c1 ?c2 ?c3 ?c4 ?c5 ?_)
    case c1=>exact(Blk.new wr _ _).news
    case c2=>intro u hu;simp at hu;rcases hu with rfl|rfl|rfl|rfl|rfl<;>rfl
    case c3=>unfold maxLen;omega
    case c4=>omega
    case c5=>have:=HB.out.size;simp;omega
    intro v' w4 own' hgrow hnil;clear hnil;have HB4:=Hj (aG HB1.out (pF (aI HB.out _) (by have:=HB.out.size;simp;omega) (HO.out.alloc _) hgrow));have HO4:=Hj (nV HB1.out.size own');clear own' hgrow HB HO;go_wp2_with fail;refine bodyPost_ret (by simp[results,Tryz.results79,go_sem];(try rfl)) rfl ⟨v',?_,?_,HB4.out⟩
    ·rw[HRR.out]
     rfl
    ·rw[HRR.out]
     show World.ownsRow _ _ _ _ _ (ts++[enT s.size]).length (rM (ts++[enT s.size]));rw[yS,List.length_append];exact HO4.out
theorem aBb (s:ByteArray)(w:World)(hs:s.size≤1048576)(hE:Env9 w) :
  Calls Tryz.prog 33 #[.string s] w fun e w'=>e=.returned (.bool (kwS.contains s.data.toList))∧Below w.heap.size w w':=by
 have KW:=Hj (oS w hE);go_enter Tryz.func33,Tryz.ntmps33;go_wp2_with fail;refine KW.out.mono ?_;rintro e w1 ⟨g,rfl,hg,hK,hb⟩;have HB:=Hj hb;obtain⟨c,hc,hd⟩:=hK.look s hs;have HD:Hid (decide (0<c)=kwS.contains s.data.toList):=hd;clear hb hK hd KW hE;go_wp2_with fail;go_ret;exact⟨bD HD.out,HB.out⟩
def aU (l:List UInt8):Bool:=!l.isEmpty && (decide (l.length≤32) && (decide (nmL l=l.length) && !kwS.contains l))
theorem tD (s:ByteArray)(w:World)(hs:s.size≤1048576)(hE:Env9 w) :
  Calls Tryz.prog 15 #[.string s] w fun e w'=>e=.returned (.bool (aU s.data.toList))∧Below w.heap.size w w':=by
 have V:aU s.data.toList=(!s.data.toList.isEmpty && (decide (s.data.toList.length≤32) && (decide (nmL s.data.toList=s.data.toList.length) && !kwS.contains s.data.toList))):=rfl;rw[←Lib.size_eq]at V;have N:=Hj fun w=>yK s w;have W:=Hj fun w hE=>aBb s w hs hE;have hem:s.toList.isEmpty=s.data.toList.isEmpty:=by rw[Lib.toList_data]
 generalize aU s.data.toList=R at *;generalize s.data.toList.isEmpty=em at *;generalize kwS.contains s.data.toList=k at *;cases em
 ·by_cases h1:s.size≤32
  ·have h1':(s.size:Int)≤32:=by omega
   rw[decide_eq_true h1]at V
   by_cases h2:nmL s.data.toList=s.size
   ·rw[decide_eq_true h2]at V
    rw[h2]at N;have VV:Hid ((!k)=R):=by show _=_;rw[V];simp
    clear V h2;go_enter Tryz.func15,Tryz.ntmps15;go_wp2_with fail;refine(N.out _).mono ?_;rintro e w1 ⟨rfl,hb⟩;have HB:=Hj hb;have HE:=Hj (hE.below hb);clear hb hE N;go_wp2_with fail;refine(W.out _ HE.out).mono ?_;rintro e w2 ⟨rfl,hb⟩;have HB2:=Hj (aG HB.out hb);clear hb;go_wp2_with fail;go_ret;exact⟨bD VV.out,HB2.out⟩
   ·have h2':((nmL s.data.toList:Int) == (s.size:Int))=false:=by rw[beq_eq_false_iff_ne];omega
    rw[decide_eq_false h2]at V;have VV:Hid (false=R):=by show _=_;rw[V];simp
    clear V h2;go_enter Tryz.func15,Tryz.ntmps15;go_wp2_with fail;refine(N.out _).mono ?_;rintro e w1 ⟨rfl,hb⟩;have HB:=Hj hb;clear hb hE N;go_wp2_with fail;go_ret;exact⟨bD VV.out,HB.out⟩
  ·have h1':¬(s.size:Int)≤32:=by omega
   rw[decide_eq_false h1]at V;have VV:Hid (false=R):=by show _=_;rw[V];simp
   clear V;go_enter Tryz.func15,Tryz.ntmps15;go_wp2_with fail;go_ret;exact⟨bD VV.out,Below.refl _ _⟩
 ·have VV:Hid (false=R):=by show _=_;rw[V];simp
  clear V;go_enter Tryz.func15,Tryz.ntmps15;go_wp2_with fail;go_ret;exact⟨bD VV.out,Below.refl _ _⟩
theorem aMH {a b:Tk}(h:a.kd=b.kd∧a.ps=b.ps∧a.tx=b.tx∧a.nn=b.nn∧a.ff=b.ff):a=b:=by
 obtain⟨a1,a2,a3,a4,a5⟩:=a;obtain⟨b1,b2,b3,b4,b5⟩:=b;obtain⟨h1,h2,h3,h4,h5⟩:=h;dsimp only at h1 h2 h3 h4 h5;rw[h1,h2,h3,h4,h5]
instance tkDec:DecidableEq Tk:=fun a b=>
 if h:a.kd=b.kd∧a.ps=b.ps∧a.tx=b.tx∧a.nn=b.nn∧a.ff=b.ff then .isTrue (aMH h)else .isFalse fun e=>h (by subst e;exact⟨rfl,rfl,rfl,rfl,rfl⟩)
theorem aJQ (s:ByteArray)(e a:Nat):(s.extract e a).data.toList=(s.data.toList.drop e).take (a-e):=by
 have:=Lib.extract_toList s e a;rw[Lib.toList_data]at this;exact this
theorem aKv {b:UInt8}{n:Nat}(h:b=UInt8.ofNat n)(hn:n<256):(b.toNat:Int)=n:=by
 rw[h,UInt8.toNat_ofNat'];omega
theorem aKu {b:UInt8}{n:Nat}(h:b≠UInt8.ofNat n)(hn:n<256):((b.toNat:Int) == n)=false:=by
 rw[beq_eq_false_iff_ne];intro e;refine h (UInt8.toNat_inj.1 ?_);rw[UInt8.toNat_ofNat'];omega
end Go.Proofs.YtkbicfffokegeaaGreatDoor
