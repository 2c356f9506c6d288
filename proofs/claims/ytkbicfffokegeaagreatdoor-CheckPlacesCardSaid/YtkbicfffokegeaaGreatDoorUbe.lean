/-
  Layer 12's checks answer true, whatever program is handed in. (part 31 of 35) Conditions: none beside what the card ties.
-/
import Derived.Test.YtkbicfffokegeaaGreatDoorUay
import Derived.Test.YtkbicfffokegeaaGreatDoorUbd
import Derived.Test.YtkbicfffokegeaaGreatDoorUax
namespace Go.Proofs.YtkbicfffokegeaaGreatDoor
set_option maxHeartbeats 16000000
open Go.RowKit Go.Maps
set_option maxRecDepth 100000
structure RW12 (w:World) (v:Value) (n:Nat) (K:Nat→St) (w':World):Prop where
 own:w'.ownsRow w.heap.size 48 15 v n (rowC K n)
 xs:∀i,i<n→XS (Dr w.heap.size v) (K i) w'
 bl:Below w.heap.size w w'
theorem RW12.bel {n:Nat}{w w1 w2:World}{v:Value}{K:Nat→St}(h:RW12 w v n K w1)(hb:Below w1.heap.size w1 w2):RW12 w v n K w2:=
 ⟨own_belowK h.own hb,fun i hi=>(h.xs i hi).bel hb,h.bl.trans (hb.mono h.bl.size)⟩
theorem RW12.add {n:Nat}{w w1 w2 w3:World}{v v':Value}{K:Nat→St}{b:St}(h:RW12 w v n K w1)(hx:XS (Fro w1.heap.size) b w2)(hb:Below w1.heap.size w1 w2)(own:w3.ownsRow w.heap.size 48 15 v' (n+1) (rowC K n++stvs b.h b.e.h))(gr:w2.grownBy w3 v.ownBlock)(mv:RowAt w2 v v'):RW12 w v' (n+1) (fun i=>if i<n then K i else b) w3:=
 ⟨moreC_row own,more_xs (fun i hi=>app_xsr gr mv ((h.bel hb).xs i hi)) (app_xsr gr mv (hx.imp (fun k _ (x:w1.heap.size≤k)=>⟨Nat.le_trans h.bl.size x,fun e=>Nat.lt_irrefl _ (Nat.lt_of_lt_of_le (own_block h.own e).2 x)⟩))),
  (h.bel hb).bl.trans (((gr_fx gr).mono (C:=w.heap.size) (Y:=fun k=>v.ownBlock=some k) (h.bel hb).bl.size (fun _ _ x=>x)).bel (fun k hk x=>by have:=(own_block h.own x).1;omega))⟩
structure RX12 (L:Nat) (v:Value) (n:Nat) (K:Nat→Ex) (w':World):Prop where
 own:w'.ownsRow L 42 7 v n (rowE K n)
 xs:∀i,i<n→XO (Dr L v) (K i) w'
 sz:L≤w'.heap.size
theorem RX12.bel {L n:Nat}{w1 w2:World}{v:Value}{K:Nat→Ex}(h:RX12 L v n K w1)(hb:Below w1.heap.size w1 w2):RX12 L v n K w2:=
 ⟨own_belowK h.own hb,fun i hi=>(h.xs i hi).bel hb,Nat.le_trans h.sz hb.size⟩
theorem RX12.add {L n:Nat}{w1 w2 w3:World}{v v':Value}{K:Nat→Ex}{b:Ex}(h:RX12 L v n K w1)(hx:XO (Fro w1.heap.size) b w2)(hb:Below w1.heap.size w1 w2)(own:w3.ownsRow L 42 7 v' (n+1) (rowE K n++b.h.vs))(gr:w2.grownBy w3 v.ownBlock)(mv:RowAt w2 v v'):RX12 L v' (n+1) (fun i=>if i<n then K i else b) w3:=
 ⟨moreE_row own,moreE_x (fun i hi=>app_xo gr mv ((h.bel hb).xs i hi)) (app_xo gr mv (hx.imp (fun k _ (x:w1.heap.size≤k)=>⟨Nat.le_trans h.sz x,fun e=>Nat.lt_irrefl _ (Nat.lt_of_lt_of_le (own_block h.own e).2 x)⟩))),Nat.le_trans (h.bel hb).sz gr.size⟩
theorem RX12.bl {L n:Nat}{w0 w1 w2 w3:World}{v:Value}{K:Nat→Ex}(_:RX12 L v n K w1)(h0:Below w0.heap.size w0 w1)(hb:Below w1.heap.size w1 w2)(gr:w2.grownBy w3 v.ownBlock)(hg:∀g,v.ownBlock=some g→w0.heap.size≤g):Below w0.heap.size w0 w3:=by
 have h1:=h0.trans (hb.mono h0.size);exact h1.trans (((gr_fx gr).mono (C:=w0.heap.size) (Y:=fun k=>v.ownBlock=some k) h1.size (fun _ _ x=>x)).bel (fun k hk x=>by have:=hg k x;omega))
theorem sO_eq (h:SH)(e:EH):sO h e=.cells (stvs h e).toArray 48 (0,0):=rfl
theorem stvs_one (h:SH)(e:EH):((stvs h e).toArray.all (·.oneCell'))=true:=by simp[stvs,Value.oneCell']
theorem Fx.xo {D:Nat}{e:Ex}{w w':World}(f:Fx (On D) w.heap.size w w')(h:XO (Fro (D+1)) e w):XO (Fro (D+1)) e w':=h.fx f (on_fro (Nat.lt_succ_self _))
theorem Fx.xl {D:Nat}{S:Sl}{K:Nat→Ex}{w w':World}(f:Fx (On D) w.heap.size w w')(h:XL (Fro (D+1)) S K w):XL (Fro (D+1)) S K w':=h.fx f (on_fro (Nat.lt_succ_self _))
theorem Fx.xb {D:Nat}{S:Sl}{K:Nat→St}{w w':World}(f:Fx (On D) w.heap.size w w')(h:XB (Fro (D+1)) S K w):XB (Fro (D+1)) S K w':=h.fx f (on_fro (Nat.lt_succ_self _))
theorem fro_up {L M:Nat}(h:L≤M):∀ {W:World},∀k,k<W.heap.size→Fro M k→Fro L k:=fun k _ (x:M≤k)=>Nat.le_trans h x
def RetBk (y:Int)(s:Sl)(k:Nat→St)(w:World)(r:Ending)(w':World):Prop:=∃(S:Sl) (K:Nat→St),r=.returned (.slice S.ao S.n S.c)∧XB (Fro w.heap.size) S K w'∧S.n=s.n∧(∀i,i<s.n→(k i).same (K i)=true∧(K i).allp y)∧Below w.heap.size w w'
def BkX (y:Int)(B:Nat)(s:Sl)(k:Nat→St):Prop:=∀(w:World),SsIn B w s k→B≤w.heap.size→Calls Tryz.prog 11 #[.slice s.ao s.n s.c,.int .i64 y] w (RetBk y s k w)
def bkH (y:Int)(h:SH)(xs ts es:Sl):SH:=⟨h.kd,y,h.nm,xs,h.lo,h.hi,ts,es⟩
theorem bkH_ok {y:Int}{h:SH}{xs ts es:Sl}(y0:-9223372036854775808≤y)(y1:y≤9223372036854775807)(g:h.ok)(hx:xs.ok)(ht:ts.ok)(he:es.ok):(bkH y h xs ts es).ok:=
 ⟨g.kd0,g.kd1,y0,y1,g.lo0,g.lo1,g.hi0,g.hi1,g.nm,hx,ht,he⟩
theorem bk_same {y:Int}{s:St}{X:Nat→Ex}{e:Ex}{T E:Nat→St}{xa ta ea:Option Addr}{xc tc ec:Nat}(hx:∀i,i<s.h.xs.n→(s.x i).same (X i)=true∧(X i).allp y)(he:s.e.same e=true∧e.allp y)(ht:∀i,i<s.h.ts.n→(s.t i).same (T i)=true∧(T i).allp y)(hl:∀i,i<s.h.es.n→(s.l i).same (E i)=true∧(E i).allp y) :
  s.same (St.mk (bkH y s.h ⟨xa,s.h.xs.n,xc⟩ ⟨ta,s.h.ts.n,tc⟩ ⟨ea,s.h.es.n,ec⟩) X e T E)=true∧(St.mk (bkH y s.h ⟨xa,s.h.xs.n,xc⟩ ⟨ta,s.h.ts.n,tc⟩ ⟨ea,s.h.es.n,ec⟩) X e T E).allp y:=
 ⟨St.same_iff.2 ⟨⟨rfl,rfl,rfl,rfl,rfl,rfl⟩,he.1,⟨rfl,fun i hi=>(hx i hi).1⟩,fun i hi=>(ht i hi).1,fun i hi=>(hl i hi).1⟩,rfl,fun i hi=>(hx i hi).2,he.2,fun i hi=>(ht i hi).2,fun i hi=>(hl i hi).2⟩
theorem block_of (y:Int)(y0:-9223372036854775808≤y)(y1:y≤9223372036854775807)(B:Nat)(s:Sl)(k:Nat→St)(hn:s.n≤100000)(hwx:(∀i,i<s.n→(k i).h.xs.n≤100000∧(k i).e.wt≤100000∧∀j,j<(k i).h.xs.n→((k i).x j).wt≤100000))(ih:∀i,i<s.n→BkX y B (k i).h.ts (k i).t∧BkX y B (k i).h.es (k i).l):BkX y B s k:=by
 intro w hX hB;obtain⟨i0,hi,hz0,hz1,hz2⟩:=info_parts stm_info;have HI0:=Hj (And.intro hi (And.intro hz0 (And.intro hz1 hz2)));clear hi hz0 hz1 hz2;obtain⟨i1,hi,hz0,hz1,hz2⟩:=info_parts expr_info;have HI1:=Hj (And.intro hi (And.intro hz0 (And.intro hz1 hz2)));clear hi hz0 hz1 hz2;have HI:=Hj hX;have HB:=Hj hB;have HN:=Hj hn;have IH:=Hj ih;have HW:=Hj hwx;have HY:=Hj (And.intro y0 y1);clear hX hB hn ih hwx y0 y1;obtain⟨ao,n,c⟩:=s;dsimp only at *;go_enter Tryz.func11,Tryz.ntmps11;go_wp2_with fail
 go_loopg [5,6] n (fun gk v i wr=>∃(j cp:Nat) (A:Option Addr) (K:Nat→St),v=.slice A j cp∧i=.int .i64 (j:Int)∧Hid (gk=n-j∧j≤n)∧Hid (RW12 w (.slice A j cp) j K wr)∧Hid (∀i,i<j→(k i).same (K i)=true∧(K i).allp y))
 case atStart=>exact⟨0,0,none,fun _=>.no,rfl,rfl,⟨rfl,Nat.zero_le _⟩,⟨World.ownsRow_nil _ _ _ _,(fun i hi=>absurd hi (Nat.not_lt_zero i)),Below.refl _ _⟩,fun i hi=>absurd hi (Nat.not_lt_zero i)⟩
 case round=>
  obtain⟨j,cp,A,K,rfl,rfl,HJ,HR,SJ⟩:=hrel
  by_cases hlt:j<n
  ·have z0:(j:Int)<(n:Int):=by omega
   have ovi:IntKind.i64.wrap ((j:Int)+1)=((j+1:Nat):Int):=by have:=HN.out;rw[IntKind.wrap_i64];omega
   have HIr:=Hj (HI.out.below HR.out.bl HB.out);obtain⟨a,b',o,ha,hA,hb1,h4⟩:=HIr.out.2.1.at HI.out.1 (i:=j) hlt rfl;have II:=Hj (HIr.out.2.2 j hlt);have HBr:=Hj (Nat.le_trans HB.out HR.out.bl.size);have HWj:=Hj (HW.out j hlt);have IHj:=Hj (IH.out j hlt);have HLT:=Hj hlt;dsimp only at ha;subst ha;have RC:=Hj (show wr.rangeAt b' o (stvs (k j).h (k j).e.h)from h4);have BX:=Hj (bx_bel (Below.refl wr.heap.size wr) (Nat.le_refl _) (sO (k j).h (k j).e.h));have SZX:Hid ((bx wr (sO (k j).h (k j).e.h)).heap.size=wr.heap.size+1):=bx_size _ _;have GX:=Hj (bx_new wr (sO (k j).h (k j).e.h));have O1:=Hj (stvs_one (k j).h (k j).e.h);rw[sO_eq]at BX SZX GX;obtain⟨V1,hV1⟩:∃V,stvs (k j).h (k j).e.h=V:=⟨_,rfl⟩;have HV1:=Hj hV1;have L1:=Hj (show(Tryz.prog.info? 48).map (·.size)=some V1.length∧V1.length=15 by rw[←hV1];exact⟨by kernel_rfl,rfl⟩);rw[hV1]at BX SZX GX RC O1;clear hlt hb1 hV1 h4 HIr
   go_upto_region 6 with(first
    | refine wpList_load_mid rfl 48 _ rfl b' o rfl V1 _ RC.out Tryz.underlying48 rfl L1.out.1 ?_
    | refine store_bx rfl 48 _ _ rfl wr _ V1.toArray rfl rfl (by rw[List.size_toArray];exact L1.out.1) (by have h:V1.toArray.size=15:=(by rw[List.size_toArray];exact L1.out.2);rw[h];rfl) O1.out ?_)
   have K0:Hid (Blk (bx wr (.cells V1.toArray 48 (0,0))) wr.heap.size 48 (stvs (k j).h (k j).e.h).toArray):=by show Blk _ _ _ _;rw[HV1.out];exact GX.out
   clear RC O1 L1 HV1 GX hA;generalize bx wr (.cells V1.toArray 48 (0,0))=w0 at *;try simp only[Act.put]
   have m1:w0.cell? ⟨wr.heap.size,1,none⟩=some (.int .i64 (k j).h.ps):=K0.out.cell 1;have f1:=K0.out.frozen 1;have q1:=K0.out.lt;go_upto_region 7 with fail;have K1:Hid (Blk (w0.setCell ⟨wr.heap.size,1,none⟩ (.int .i64 y)) wr.heap.size 48 (stvs (bkH y (k j).h (k j).h.xs (k j).h.ts (k j).h.es) (k j).e.h).toArray):=K0.out.set_ 1 (.int .i64 y);have BR1:=Hj (bel_set BX.out (p:=⟨wr.heap.size,1,none⟩) (Nat.le_refl _) (.int .i64 y));clear m1 f1 q1 K0 BX SZX;generalize w0.setCell ⟨wr.heap.size,1,none⟩ (.int .i64 y)=w1 at *;have MV:=Hj fun W (hb:Below wr.heap.size wr W)=>moved_any y HY.out.1 HY.out.2 B (k j).e HWj.out.2.1 W (II.out.ex.below hb HBr.out) (Nat.le_trans HBr.out hb.size);have BT:=Hj fun W (hb:Below wr.heap.size wr W)=>IHj.out.1 W (II.out.ts.below hb HBr.out) (Nat.le_trans HBr.out hb.size);have BE:=Hj fun W (hb:Below wr.heap.size wr W)=>IHj.out.2 W (II.out.es.below hb HBr.out) (Nat.le_trans HBr.out hb.size);have OK:=Hj II.out.ok;have d4:w1.cell? ⟨wr.heap.size,4,none⟩=some (.int .u8 (k j).e.h.op):=K1.out.cell 4;have d5:w1.cell? ⟨wr.heap.size,4+1,none⟩=some (.int .i64 (k j).e.h.ps):=K1.out.cell 5;have d6:w1.cell? ⟨wr.heap.size,4+2,none⟩=some (.bool (k j).e.h.bo):=K1.out.cell 6
   have d7:w1.cell? ⟨wr.heap.size,4+3,none⟩=some (.int .i32 (k j).e.h.it):=K1.out.cell 7;have d8:w1.cell? ⟨wr.heap.size,4+4,none⟩=some (.int .u64 (k j).e.h.fl):=K1.out.cell 8;have d9:w1.cell? ⟨wr.heap.size,4+5,none⟩=some (.string ⟨(k j).e.h.nm.toArray⟩):=K1.out.cell 9;have d10:w1.cell? ⟨wr.heap.size,4+6,none⟩=some (.slice (k j).e.h.s.ao (k j).e.h.s.n (k j).e.h.s.c):=K1.out.cell 10;go_wp2_with fail;refine(MV.out _ BR1.out).mono ?_;rintro r w3 ⟨e',rfl,xe,se,ae,b3⟩;have SE:=Hj (And.intro se ae);have K3:=Hj (K1.out.below b3 K1.out.lt);have XE3:Hid (XO (Fro (wr.heap.size+1)) e' w3):=xe.imp (fro_up (show wr.heap.size+1≤w1.heap.size from K1.out.lt));have BR3:=Hj (BR1.out.trans (b3.mono BR1.out.size));clear xe se ae b3 MV K1 BR1 d4 d5 d6 d7 d8 d9 d10 w0
   go_upto_region 8 with(refine st_se (bkH y (k j).h (k j).h.xs (k j).h.ts (k j).h.es) (k j).e.h e'.h wr.heap.size K3.out rfl _ _ rfl rfl rfl ?_;intro w4 K4 W4)
   have XE4:=Hj (W4.out.1.xo XE3.out);have BR4:=Hj (fx_bel_of BR3.out W4.out.1 (fun k hk (x:k=wr.heap.size)=>by omega));have SZ4:Hid (wr.heap.size+1≤w4.heap.size):=K4.out.lt;clear XE3 BR3 K3 W4 w3;have XX:=Hj fun W (hb:Below wr.heap.size wr W)=>II.out.xs.below hb HBr.out;have OX:Hid (RX12 w4.heap.size (.slice none 0 0) 0 (fun _=>Ex.no) w4):=⟨World.ownsRow_nil _ _ _ _,(fun i hi=>absurd hi (Nat.not_lt_zero i)),Nat.le_refl _⟩;have MVX:=Hj fun q (hq:q<(k j).h.xs.n) W (hI:((k j).x q).In B W) (hb:Below wr.heap.size wr W)=>moved_any y HY.out.1 HY.out.2 B ((k j).x q) (HWj.out.2.2 q hq) W hI (Nat.le_trans HBr.out hb.size);have HNX:=Hj HWj.out.1;clear II HWj IHj;generalize wr=wq at *;go_wp2_with fail
   go_loopg [8,9] (k j).h.xs.n (fun gk l i wr=>∃(q cx:Nat) (AX:Option Addr) (X:Nat→Ex),l=.slice AX q cx∧i=.int .i64 (q:Int)∧Hid (gk=(k j).h.xs.n-q∧q≤(k j).h.xs.n)∧Hid (RX12 w4.heap.size (.slice AX q cx) q X wr)∧Hid (∀i,i<q→((k j).x i).same (X i)=true∧(X i).allp y)∧Hid (Below w4.heap.size w4 wr))
   case atStart=>exact⟨0,0,none,fun _=>.no,rfl,rfl,⟨rfl,Nat.zero_le _⟩,OX.out,(fun i hi=>absurd hi (Nat.not_lt_zero i)),Below.refl _ _⟩
   case round=>
    clear OX;obtain⟨q,cx,AX,X,rfl,rfl,HQ,HX,SX,BJ⟩:=hrel;have KJ:=Hj (K4.out.below BJ.out K4.out.lt);have BRJ:=Hj (BR4.out.trans (BJ.out.mono BR4.out.size));have t3:wr.cell? ⟨wq.heap.size,3,none⟩=some (.slice (k j).h.xs.ao (k j).h.xs.n (k j).h.xs.c):=KJ.out.cell 3
    by_cases hlx:q<(k j).h.xs.n
    ·have z1:(q:Int)<((k j).h.xs.n:Int):=by omega
     have ovq:IntKind.i64.wrap ((q:Int)+1)=((q+1:Nat):Int):=by have:=HNX.out;rw[IntKind.wrap_i64];omega
     obtain⟨a2,b2,o2,ha2,hA2,hb2,X7,IX⟩:=(XX.out wr BRJ.out).at hlx;rw[ha2]at t3;have x0:=X7.c0;have x1:=X7.c1;have x2:=X7.c2;have x3:=X7.c3;have x4:=X7.c4;have x5:=X7.c5;have x6:=X7.c6;have CP:=Hj (MVX.out q hlx wr IX BRJ.out);have HLX:=Hj hlx;have LN:Hid (q+1≤maxLen):=by show _≤_;have:=HNX.out;unfold maxLen;omega
     have LB:Hid ((q+1)*72≤140737488355328):=by show _≤_;have:=HNX.out;omega
     have ONE:Hid (∀e':Ex,∀u∈e'.h.vs,u.oneCell'=true):=fun e'=>by simp[EH.vs,Value.oneCell']
     clear X7 hb2 IX hlx ha2;go_wp2_with fail;refine CP.out.mono ?_;rintro r w8 ⟨x',rfl,xe,se,ae,b8⟩;have XEX:=Hj xe;have SEX:=Hj (And.intro se ae);have B8:=Hj b8;clear xe se ae b8 CP x0 x1 x2 x3 x4 x5 x6 t3;unfold EH.v
     go_wp2_with (at_builtin;refine wpList_append_moved _ rfl _ _ 40 rfl w4.heap.size 42 i1 zeroH.v 7 72 Tryz.underlying40 HI1.out.1 HI1.out.2.1 HI1.out.2.2.1 HI1.out.2.2.2 rfl (by decide) (.slice AX q cx) q (rowE X q) rfl (own_belowK HX.out.own (bel_alloc B8.out (.cells x'.h.vs.toArray 42))) ⟨w8.heap.size,0,none⟩ 1 1 x'.h.vs rfl rfl (new_oneE w8 x') (ONE.out x') LN.out LB.out (Nat.le_trans HX.out.sz (bel_alloc B8.out (.cells x'.h.vs.toArray 42)).size) ?_;intro v' w10 own' hgrow mv;obtain⟨D1,e1,rfl⟩:=own_form own')
     have BA:=bel_alloc B8.out (.cells x'.h.vs.toArray 42);have R2:=Hj (HX.out.add (XEX.out.bel (bel_one w8 (.cells x'.h.vs.toArray 42))) BA own' hgrow mv);have R5:=Hj (HX.out.bl BJ.out BA hgrow (fun g hg=>(own_block HX.out.own hg).1))
     have R4:Hid (∀i,i<q+1→((k j).x i).same ((fun i=>if i<q then X i else x') i)=true∧((fun i=>if i<q then X i else x') i).allp y):=fun i hi=>by
      dsimp only;split
      ·rename_i h1;exact SX.out i h1
      ·obtain rfl:i=q:=by omega
       exact SEX.out
     clear BA own' hgrow mv XEX SEX B8 HX SX;go_wp2_with fail
     go_roundg ((k j).h.xs.n-(q+1))
     case measure=>have:=HQ.out;have:=HLX.out;omega
     case rel=>exact⟨q+1,e1,D1,fun i=>if i<q then X i else x',by go_num,by go_num,⟨rfl,HLX.out⟩,R2.out,R4.out,R5.out⟩
    ·obtain rfl:q=(k j).h.xs.n:=by have:=HQ.out;omega
     have z1:¬((k j).h.xs.n:Int)<((k j).h.xs.n:Int):=by omega
     obtain⟨S,hS,hSn,hXL⟩:=own_xl HX.out.own HX.out.xs;obtain⟨Sa,Sn,Sc⟩:=S
     obtain⟨rfl,hsn,rfl⟩:AX=Sa∧(k j).h.xs.n=Sn∧cx=Sc:=by
      have h:=hS;unfold Sl.val at h;injection h with h1 h2 h3;exact⟨h1,h2,h3⟩
     rw[←hsn]at hXL;have XL5:Hid (XL (Fro (wq.heap.size+1)) ⟨AX,(k j).h.xs.n,cx⟩ X wr):=hXL.imp (fro_up SZ4.out);have XE5:=Hj (XE4.out.bel BJ.out);have f3:=KJ.out.frozen 3;have q3:=KJ.out.lt;clear hlx hS hSn hXL HX MVX XX XE4 K4 BR4 hsn;go_upto_region 14 with fail;have K5:Hid (Blk (wr.setCell ⟨wq.heap.size,3,none⟩ (.slice AX (k j).h.xs.n cx)) wq.heap.size 48 (stvs (bkH y (k j).h ⟨AX,(k j).h.xs.n,cx⟩ (k j).h.ts (k j).h.es) e'.h).toArray):=KJ.out.set_ 3 (.slice AX (k j).h.xs.n cx);have F5:=fx_set (Fx.refl (On wq.heap.size) _ wr) (p:=⟨wq.heap.size,3,none⟩) (.inl rfl) (.slice AX (k j).h.xs.n cx);have XL6:=Hj (F5.xl XL5.out);have XE6:=Hj (F5.xo XE5.out);have BR6:=Hj (fx_bel_of BRJ.out F5 (fun k hk (x:k=wq.heap.size)=>by omega));clear F5 XL5 XE5 BRJ KJ t3 f3 q3 BJ SZ4;generalize wr.setCell ⟨wq.heap.size,3,none⟩ (.slice AX (k j).h.xs.n cx)=w6 at *;have t13:w6.cell? ⟨wq.heap.size,13,none⟩=some (.slice (k j).h.ts.ao (k j).h.ts.n (k j).h.ts.c):=K5.out.cell 13;go_wp2_with fail;refine(BT.out _ BR6.out).mono ?_;rintro r w7 ⟨⟨ta,tn,tc⟩,KT,rfl,xt,htn,st,b7⟩;obtain rfl:tn=(k j).h.ts.n:=htn;have ST:=Hj st;have K7:=Hj (K5.out.below b7 K5.out.lt)
     have XT7:Hid (XB (Fro (wq.heap.size+1)) ⟨ta,(k j).h.ts.n,tc⟩ KT w7):=xt.imp (fro_up (show wq.heap.size+1≤w6.heap.size from K5.out.lt));have XL7:=Hj (XL6.out.bel b7);have XE7:=Hj (XE6.out.bel b7);have BR7:=Hj (BR6.out.trans (b7.mono BR6.out.size));clear xt st b7 XL6 XE6 BR6 K5 t13 BT w6;have m13:w7.cell? ⟨wq.heap.size,13,none⟩=some (.slice (k j).h.ts.ao (k j).h.ts.n (k j).h.ts.c):=K7.out.cell 13;have f13:=K7.out.frozen 13;have q13:=K7.out.lt;go_upto_region 15 with fail;have K8:Hid (Blk (w7.setCell ⟨wq.heap.size,13,none⟩ (.slice ta (k j).h.ts.n tc)) wq.heap.size 48 (stvs (bkH y (k j).h ⟨AX,(k j).h.xs.n,cx⟩ ⟨ta,(k j).h.ts.n,tc⟩ (k j).h.es) e'.h).toArray):=K7.out.set_ 13 (.slice ta (k j).h.ts.n tc);have F8:=fx_set (Fx.refl (On wq.heap.size) _ w7) (p:=⟨wq.heap.size,13,none⟩) (.inl rfl) (.slice ta (k j).h.ts.n tc);have XL8:=Hj (F8.xl XL7.out);have XE8:=Hj (F8.xo XE7.out);have XT8:=Hj (F8.xb XT7.out);have BR8:=Hj (fx_bel_of BR7.out F8 (fun k hk (x:k=wq.heap.size)=>by omega));clear F8 XL7 XE7 XT7 BR7 K7 m13 f13 q13;generalize w7.setCell ⟨wq.heap.size,13,none⟩ (.slice ta (k j).h.ts.n tc)=w8 at *;clear w7
     have t14:w8.cell? ⟨wq.heap.size,14,none⟩=some (.slice (k j).h.es.ao (k j).h.es.n (k j).h.es.c):=K8.out.cell 14;go_wp2_with fail;refine(BE.out _ BR8.out).mono ?_;rintro r w9 ⟨⟨ea,en,ec⟩,KE,rfl,xt,htn,st,b7⟩;obtain rfl:en=(k j).h.es.n:=htn;have SL:=Hj st;have K9:=Hj (K8.out.below b7 K8.out.lt);have XM9:Hid (XB (Fro (wq.heap.size+1)) ⟨ea,(k j).h.es.n,ec⟩ KE w9):=xt.imp (fro_up (show wq.heap.size+1≤w8.heap.size from K8.out.lt));have XL9:=Hj (XL8.out.bel b7);have XE9:=Hj (XE8.out.bel b7);have XT9:=Hj (XT8.out.bel b7);have BR9:=Hj (BR8.out.trans (b7.mono BR8.out.size));clear xt st b7 XL8 XE8 XT8 BR8 K8 t14 BE w8;have m14:w9.cell? ⟨wq.heap.size,14,none⟩=some (.slice (k j).h.es.ao (k j).h.es.n (k j).h.es.c):=K9.out.cell 14;have f14:=K9.out.frozen 14;have q14:=K9.out.lt;go_upto_region 16 with fail;have KA:Hid (Blk (w9.setCell ⟨wq.heap.size,14,none⟩ (.slice ea (k j).h.es.n ec)) wq.heap.size 48 (stvs (bkH y (k j).h ⟨AX,(k j).h.xs.n,cx⟩ ⟨ta,(k j).h.ts.n,tc⟩ ⟨ea,(k j).h.es.n,ec⟩) e'.h).toArray):=K9.out.set_ 14 (.slice ea (k j).h.es.n ec);have FA:=fx_set (Fx.refl (On wq.heap.size) _ w9) (p:=⟨wq.heap.size,14,none⟩) (.inl rfl) (.slice ea (k j).h.es.n ec);have XLA:=Hj (FA.xl XL9.out);have XEA:=Hj (FA.xo XE9.out)
     have XTA:=Hj (FA.xb XT9.out);have XMA:=Hj (FA.xb XM9.out);have BRA:=Hj (fx_bel_of BR9.out FA (fun k hk (x:k=wq.heap.size)=>by omega));clear FA XL9 XE9 XT9 XM9 BR9 K9 m14 f14 q14;generalize w9.setCell ⟨wq.heap.size,14,none⟩ (.slice ea (k j).h.es.n ec)=wa at *;clear w9;obtain⟨b,hb⟩:∃b,St.mk (bkH y (k j).h ⟨AX,(k j).h.xs.n,cx⟩ ⟨ta,(k j).h.ts.n,tc⟩ ⟨ea,(k j).h.es.n,ec⟩) X e' KT KE=b:=⟨_,rfl⟩;have HH:Hid (b.h=(bkH y (k j).h ⟨AX,(k j).h.xs.n,cx⟩ ⟨ta,(k j).h.ts.n,tc⟩ ⟨ea,(k j).h.es.n,ec⟩)∧b.e=e'):=by rw[←hb];exact⟨rfl,rfl⟩
     have XSA:Hid (XS (Fro (wq.heap.size+1)) b wa):=by rw[←hb];exact st_in (bkH_ok HY.out.1 HY.out.2 OK.out XLA.out.1 XTA.out.1 XMA.out.1) XLA.out XEA.out XTA.out XMA.out
     have SMA:Hid ((k j).same b=true∧b.allp y):=by rw[←hb];exact bk_same SX.out SE.out ST.out SL.out
     have LN:Hid (j+1≤maxLen):=by show _≤_;have:=HN.out;have:=HLT.out;unfold maxLen;omega
     have LB:Hid ((j+1)*184≤140737488355328):=by show _≤_;have:=HN.out;have:=HLT.out;omega
     have ONE:Hid (∀u∈stvs (bkH y (k j).h ⟨AX,(k j).h.xs.n,cx⟩ ⟨ta,(k j).h.ts.n,tc⟩ ⟨ea,(k j).h.es.n,ec⟩) e'.h,u.oneCell'=true):=(by show ∀u∈stvs (bkH y (k j).h ⟨AX,(k j).h.xs.n,cx⟩ ⟨ta,(k j).h.ts.n,tc⟩ ⟨ea,(k j).h.es.n,ec⟩) e'.h,u.oneCell'=true;simp[stvs,Value.oneCell']);clear hb XLA XEA XTA XMA SX SE ST SL
     go_wp2_with (first
      | refine ld_stm (bkH y (k j).h ⟨AX,(k j).h.xs.n,cx⟩ ⟨ta,(k j).h.ts.n,tc⟩ ⟨ea,(k j).h.es.n,ec⟩) e'.h wq.heap.size KA.out rfl _ rfl rfl ?_
      | (refine bs_st (bkH y (k j).h ⟨AX,(k j).h.xs.n,cx⟩ ⟨ta,(k j).h.ts.n,tc⟩ ⟨ea,(k j).h.es.n,ec⟩) e'.h rfl _ rfl rfl ?_;intro db wb hdb ZB BA;have NW:=new_stm ZB.out)
      | (refine wpList_append_moved wb rfl _ _ 23 rfl w.heap.size 48 i0 _ 15 184 Tryz.underlying23 HI0.out.1 HI0.out.2.1 HI0.out.2.2.1 HI0.out.2.2.2 rfl (by decide) (.slice A j cp) j _ rfl (HR.out.bel (BRA.out.trans (BA.out.mono BRA.out.size))).own ⟨db,0,none⟩ 1 1 (stvs (bkH y (k j).h ⟨AX,(k j).h.xs.n,cx⟩ ⟨ta,(k j).h.ts.n,tc⟩ ⟨ea,(k j).h.es.n,ec⟩) e'.h) rfl rfl NW ONE.out LN.out LB.out (HR.out.bel (BRA.out.trans (BA.out.mono BRA.out.size))).bl.size ?_;intro v6 wz own6 gr6 mv6;obtain⟨D1,e1,rfl⟩:=own_form own6))
     have own7:=own6;rw[←HH.out.1,←HH.out.2]at own7;have R2:=Hj (HR.out.add ((XSA.out.bel BA.out).imp (fro_up (Nat.le_succ wq.heap.size))) (BRA.out.trans (BA.out.mono BRA.out.size)) own7 gr6 mv6)
     have R4:Hid (∀i,i<j+1→(k i).same ((fun i=>if i<j then K i else b) i)=true∧((fun i=>if i<j then K i else b) i).allp y):=fun i hi=>by
      dsimp only;split
      ·rename_i h1;exact SJ.out i h1
      ·obtain rfl:i=j:=by omega
       exact SMA.out
     clear own6 own7 gr6 mv6 BA ZB NW XSA SMA KA BRA;go_wp2_with fail
     go_roundg (n-(j+1))
     case measure=>have:=HJ.out;have:=HLT.out;omega
     case rel=>exact⟨j+1,e1,D1,fun i=>if i<j then K i else b,by go_num,by go_num,⟨rfl,HLT.out⟩,R2.out,R4.out⟩
  ·obtain rfl:j=n:=by have:=HJ.out;omega
   have z0:¬(j:Int)<(j:Int):=by omega
   have XS:=Hj (own_xs HR.out.own HR.out.xs);have BB:=Hj HR.out.bl;clear hlt HR;go_wp2_with fail;go_ret;obtain⟨⟨Sa,Sn,Sc⟩,hS,hSn,hx⟩:=XS.out;unfold Sl.val at hS;injection hS with h1 h2 h3;subst h1 h2 h3;exact⟨⟨A,j,cp⟩,K,rfl,hx,rfl,SJ.out,BB.out⟩
theorem st_nm {s:St}(h:s.wt≤100000):s.h.nm.length≤1000000:=by
 have h1:=St.wt_eq s;omega
theorem st_kids {s:St}(h:s.wt≤100000):s.h.xs.n≤100000∧s.e.wt≤100000∧(∀j,j<s.h.xs.n→(s.x j).wt≤100000)∧sm (fun i=>(s.t i).wt) s.h.ts.n≤100000∧sm (fun i=>(s.l i).wt) s.h.es.n≤100000:=by
 have h1:=St.wt_eq s
 have hs:∀n,n≤sm (fun i=>(s.x i).wt) n:=fun n=>by
  induction n with
  | zero=>exact Nat.le_refl _
  | succ n ihn=>
   have h3:1≤(s.x n).wt:=by rw[Ex.wt_eq];omega
   show n+1≤sm _ n+_;have h4:(fun i=>(s.x i).wt) n=(s.x n).wt:=rfl;omega
 have h2:=hs s.h.xs.n;exact⟨by omega,by omega,fun j hj=>(by have h3:=sm_one (f:=fun i=>(s.x i).wt) hj;have h4:(fun i=>(s.x i).wt) j=(s.x j).wt:=rfl;omega),by omega,by omega⟩
theorem block_st (y:Int)(y0:-9223372036854775808≤y)(y1:y≤9223372036854775807)(B:Nat)(s:St):s.wt≤100000→BkX y B s.h.ts s.t∧BkX y B s.h.es s.l:=by
 induction s using St.ind with
 | H s it il=>
  intro hw;obtain⟨-, -, -,h4,h5⟩:=st_kids hw;have q1:∀i,i<s.h.ts.n→(s.t i).wt≤100000:=fun i hi=>by have h3:=sm_one (f:=fun i=>(s.t i).wt) hi;have h6:(fun i=>(s.t i).wt) i=(s.t i).wt:=rfl;omega
  have q2:∀i,i<s.h.es.n→(s.l i).wt≤100000:=fun i hi=>by have h3:=sm_one (f:=fun i=>(s.l i).wt) hi;have h6:(fun i=>(s.l i).wt) i=(s.l i).wt:=rfl;omega
  exact⟨block_of y y0 y1 B _ _ (Nat.le_trans (wt_rows s.t s.h.ts.n) h4) (fun i hi=>⟨(st_kids (q1 i hi)).1,(st_kids (q1 i hi)).2.1,(st_kids (q1 i hi)).2.2.1⟩) fun i hi=>it i hi (q1 i hi),
   block_of y y0 y1 B _ _ (Nat.le_trans (wt_rows s.l s.h.es.n) h5) (fun i hi=>⟨(st_kids (q2 i hi)).1,(st_kids (q2 i hi)).2.1,(st_kids (q2 i hi)).2.2.1⟩) fun i hi=>il i hi (q2 i hi)⟩
theorem block_any (y:Int)(y0:-9223372036854775808≤y)(y1:y≤9223372036854775807)(B:Nat)(s:Sl)(k:Nat→St)(hw:sm (fun i=>(k i).wt) s.n≤100000):BkX y B s k:=by
 have q1:∀i,i<s.n→(k i).wt≤100000:=fun i hi=>by have h3:=sm_one (f:=fun i=>(k i).wt) hi;have h6:(fun i=>(k i).wt) i=(k i).wt:=rfl;omega
 exact block_of y y0 y1 B s k (Nat.le_trans (wt_rows k s.n) hw) (fun i hi=>⟨(st_kids (q1 i hi)).1,(st_kids (q1 i hi)).2.1,(st_kids (q1 i hi)).2.2.1⟩) fun i hi=>block_st y y0 y1 B (k i) (q1 i hi)
def RetNd (s:Sl)(k:Nat→St)(w:World)(r:Ending)(w':World):Prop:=∃(S:Sl) (K:Nat→St),r=.returned (.slice S.ao S.n S.c)∧XB (Fro w.heap.size) S K w'∧S.n=s.n∧(∀i,i<s.n→(K i).eqv (k i).nmd)∧Below w.heap.size w w'
def NdX (B:Nat)(s:Sl)(k:Nat→St):Prop:=∀(w:World),SsIn B w s k→B≤w.heap.size→Calls Tryz.prog 14 #[.slice s.ao s.n s.c] w (RetNd s k w)
def ndH (h:SH)(xs ts es:Sl):SH:=⟨h.kd,h.ps,(us h.nm),xs,h.lo,h.hi,ts,es⟩
theorem ndH_ok {h:SH}{xs ts es:Sl}(hl:h.nm.length≤1000000)(g:h.ok)(hx:xs.ok)(ht:ts.ok)(he:es.ok):(ndH h xs ts es).ok:=
 ⟨g.kd0,g.kd1,g.ps0,g.ps1,g.lo0,g.lo1,g.hi0,g.hi1,(by show(us h.nm).length≤maxLen;unfold us maxLen;rw[List.length_append];show h.nm.length+1≤_;omega),hx,ht,he⟩
theorem nd_same {s:St}{X:Nat→Ex}{e:Ex}{T E:Nat→St}{xa ta ea:Option Addr}{xc tc ec:Nat}(hx:∀i,i<s.h.xs.n→(X i).eqv (s.x i).cal)(he:e.eqv s.e.cal)(ht:∀i,i<s.h.ts.n→(T i).eqv (s.t i).nmd)(hl:∀i,i<s.h.es.n→(E i).eqv (s.l i).nmd) :
  (St.mk (ndH s.h ⟨xa,s.h.xs.n,xc⟩ ⟨ta,s.h.ts.n,tc⟩ ⟨ea,s.h.es.n,ec⟩) X e T E).eqv s.nmd:=by
 obtain⟨h1,h2,h3,h4,h5⟩:=St.nmd_hd s;refine⟨?_,?_,?_,⟨?_,fun i hi=>?_⟩,fun i hi=>?_,fun i hi=>?_⟩
 ·rw[h1];simp[hsS,ndH,nmS]
 ·rw[h1];rfl
 ·rw[h2];exact he
 ·rw[h1];rfl
 ·rw[h3 i hi];exact hx i hi
 ·rw[h4 i hi];exact ht i hi
 ·rw[h5 i hi];exact hl i hi
theorem named_of (B:Nat)(s:Sl)(k:Nat→St)(hn:s.n≤100000)(hwx:(∀i,i<s.n→(k i).h.xs.n≤100000∧(k i).h.nm.length≤1000000∧(k i).e.wt≤100000∧∀j,j<(k i).h.xs.n→((k i).x j).wt≤100000))(ih:∀i,i<s.n→NdX B (k i).h.ts (k i).t∧NdX B (k i).h.es (k i).l):NdX B s k:=by
 intro w hX hB;obtain⟨i0,hi,hz0,hz1,hz2⟩:=info_parts stm_info;have HI0:=Hj (And.intro hi (And.intro hz0 (And.intro hz1 hz2)));clear hi hz0 hz1 hz2;obtain⟨i1,hi,hz0,hz1,hz2⟩:=info_parts expr_info;have HI1:=Hj (And.intro hi (And.intro hz0 (And.intro hz1 hz2)));clear hi hz0 hz1 hz2;have HI:=Hj hX;have HB:=Hj hB;have HN:=Hj hn;have IH:=Hj ih;have HW:=Hj hwx;clear hX hB hn ih hwx;obtain⟨ao,n,c⟩:=s;dsimp only at *;go_enter Tryz.func14,Tryz.ntmps14;go_wp2_with fail
 go_loopg [3,4] n (fun gk v i wr=>∃(j cp:Nat) (A:Option Addr) (K:Nat→St),v=.slice A j cp∧i=.int .i64 (j:Int)∧Hid (gk=n-j∧j≤n)∧Hid (RW12 w (.slice A j cp) j K wr)∧Hid (∀i,i<j→(K i).eqv (k i).nmd))
 case atStart=>exact⟨0,0,none,fun _=>.no,rfl,rfl,⟨rfl,Nat.zero_le _⟩,⟨World.ownsRow_nil _ _ _ _,(fun i hi=>absurd hi (Nat.not_lt_zero i)),Below.refl _ _⟩,fun i hi=>absurd hi (Nat.not_lt_zero i)⟩
 case round=>
  obtain⟨j,cp,A,K,rfl,rfl,HJ,HR,SJ⟩:=hrel
  by_cases hlt:j<n
  ·have z0:(j:Int)<(n:Int):=by omega
   have ovi:IntKind.i64.wrap ((j:Int)+1)=((j+1:Nat):Int):=by have:=HN.out;rw[IntKind.wrap_i64];omega
   have HIr:=Hj (HI.out.below HR.out.bl HB.out);obtain⟨a,b',o,ha,hA,hb1,h4⟩:=HIr.out.2.1.at HI.out.1 (i:=j) hlt rfl;have II:=Hj (HIr.out.2.2 j hlt);have HBr:=Hj (Nat.le_trans HB.out HR.out.bl.size);have HWj:=Hj (HW.out j hlt);have IHj:=Hj (IH.out j hlt);have HLT:=Hj hlt;dsimp only at ha;subst ha;have RC:=Hj (show wr.rangeAt b' o (stvs (k j).h (k j).e.h)from h4);have BX:=Hj (bx_bel (Below.refl wr.heap.size wr) (Nat.le_refl _) (sO (k j).h (k j).e.h));have SZX:Hid ((bx wr (sO (k j).h (k j).e.h)).heap.size=wr.heap.size+1):=bx_size _ _;have GX:=Hj (bx_new wr (sO (k j).h (k j).e.h));have O1:=Hj (stvs_one (k j).h (k j).e.h);rw[sO_eq]at BX SZX GX;obtain⟨V1,hV1⟩:∃V,stvs (k j).h (k j).e.h=V:=⟨_,rfl⟩;have HV1:=Hj hV1;have L1:=Hj (show(Tryz.prog.info? 48).map (·.size)=some V1.length∧V1.length=15 by rw[←hV1];exact⟨by kernel_rfl,rfl⟩);rw[hV1]at BX SZX GX RC O1;clear hlt hb1 hV1 h4 HIr
   go_upto_region 6 with(first
    | refine wpList_load_mid rfl 48 _ rfl b' o rfl V1 _ RC.out Tryz.underlying48 rfl L1.out.1 ?_
    | refine store_bx rfl 48 _ _ rfl wr _ V1.toArray rfl rfl (by rw[List.size_toArray];exact L1.out.1) (by have h:V1.toArray.size=15:=(by rw[List.size_toArray];exact L1.out.2);rw[h];rfl) O1.out ?_)
   have K0:Hid (Blk (bx wr (.cells V1.toArray 48 (0,0))) wr.heap.size 48 (stvs (k j).h (k j).e.h).toArray):=by show Blk _ _ _ _;rw[HV1.out];exact GX.out
   clear RC O1 L1 HV1 GX hA;generalize bx wr (.cells V1.toArray 48 (0,0))=w0 at *;try simp only[Act.put]
   have m1:w0.cell? ⟨wr.heap.size,2,none⟩=some (.string ⟨(k j).h.nm.toArray⟩):=K0.out.cell 2;have f1:=K0.out.frozen 2;have q1:=K0.out.lt;have SADD:=fun w=>sadd_us HWj.out.2.1 w;go_upto_region 7 with fail;have K1:Hid (Blk (w0.setCell ⟨wr.heap.size,2,none⟩ (.string ⟨(us (k j).h.nm).toArray⟩)) wr.heap.size 48 (stvs (ndH (k j).h (k j).h.xs (k j).h.ts (k j).h.es) (k j).e.h).toArray):=K0.out.set_ 2 (.string ⟨(us (k j).h.nm).toArray⟩);have BR1:=Hj (bel_set BX.out (p:=⟨wr.heap.size,2,none⟩) (Nat.le_refl _) (.string ⟨(us (k j).h.nm).toArray⟩));have HLN:=Hj HWj.out.2.1;clear m1 f1 q1 K0 BX SZX SADD;generalize w0.setCell ⟨wr.heap.size,2,none⟩ (.string ⟨(us (k j).h.nm).toArray⟩)=w1 at *;have MV:=Hj fun W (hb:Below wr.heap.size wr W)=>called_any B (k j).e HWj.out.2.2.1 W (II.out.ex.below hb HBr.out) (Nat.le_trans HBr.out hb.size);have BT:=Hj fun W (hb:Below wr.heap.size wr W)=>IHj.out.1 W (II.out.ts.below hb HBr.out) (Nat.le_trans HBr.out hb.size);have BE:=Hj fun W (hb:Below wr.heap.size wr W)=>IHj.out.2 W (II.out.es.below hb HBr.out) (Nat.le_trans HBr.out hb.size);have OK:=Hj II.out.ok;have d4:w1.cell? ⟨wr.heap.size,4,none⟩=some (.int .u8 (k j).e.h.op):=K1.out.cell 4
   have d5:w1.cell? ⟨wr.heap.size,4+1,none⟩=some (.int .i64 (k j).e.h.ps):=K1.out.cell 5;have d6:w1.cell? ⟨wr.heap.size,4+2,none⟩=some (.bool (k j).e.h.bo):=K1.out.cell 6;have d7:w1.cell? ⟨wr.heap.size,4+3,none⟩=some (.int .i32 (k j).e.h.it):=K1.out.cell 7;have d8:w1.cell? ⟨wr.heap.size,4+4,none⟩=some (.int .u64 (k j).e.h.fl):=K1.out.cell 8;have d9:w1.cell? ⟨wr.heap.size,4+5,none⟩=some (.string ⟨(k j).e.h.nm.toArray⟩):=K1.out.cell 9;have d10:w1.cell? ⟨wr.heap.size,4+6,none⟩=some (.slice (k j).e.h.s.ao (k j).e.h.s.n (k j).e.h.s.c):=K1.out.cell 10;go_wp2_with fail;refine(MV.out _ BR1.out).mono ?_;rintro r w3 ⟨e',rfl,xe,se,b3⟩;have SE:=Hj se;have K3:=Hj (K1.out.below b3 K1.out.lt);have XE3:Hid (XO (Fro (wr.heap.size+1)) e' w3):=xe.imp (fro_up (show wr.heap.size+1≤w1.heap.size from K1.out.lt));have BR3:=Hj (BR1.out.trans (b3.mono BR1.out.size));clear xe se b3 MV K1 BR1 d4 d5 d6 d7 d8 d9 d10 w0
   go_upto_region 8 with(refine st_se (ndH (k j).h (k j).h.xs (k j).h.ts (k j).h.es) (k j).e.h e'.h wr.heap.size K3.out rfl _ _ rfl rfl rfl ?_;intro w4 K4 W4)
   have XE4:=Hj (W4.out.1.xo XE3.out);have BR4:=Hj (fx_bel_of BR3.out W4.out.1 (fun k hk (x:k=wr.heap.size)=>by omega));have SZ4:Hid (wr.heap.size+1≤w4.heap.size):=K4.out.lt;clear XE3 BR3 K3 W4 w3;have XX:=Hj fun W (hb:Below wr.heap.size wr W)=>II.out.xs.below hb HBr.out;have OX:Hid (RX12 w4.heap.size (.slice none 0 0) 0 (fun _=>Ex.no) w4):=⟨World.ownsRow_nil _ _ _ _,(fun i hi=>absurd hi (Nat.not_lt_zero i)),Nat.le_refl _⟩;have MVX:=Hj fun q (hq:q<(k j).h.xs.n) W (hI:((k j).x q).In B W) (hb:Below wr.heap.size wr W)=>called_any B ((k j).x q) (HWj.out.2.2.2 q hq) W hI (Nat.le_trans HBr.out hb.size);have HNX:=Hj HWj.out.1;clear II HWj IHj;generalize wr=wq at *;go_wp2_with fail
   go_loopg [6,7] (k j).h.xs.n (fun gk l i wr=>∃(q cx:Nat) (AX:Option Addr) (X:Nat→Ex),l=.slice AX q cx∧i=.int .i64 (q:Int)∧Hid (gk=(k j).h.xs.n-q∧q≤(k j).h.xs.n)∧Hid (RX12 w4.heap.size (.slice AX q cx) q X wr)∧Hid (∀i,i<q→(X i).eqv ((k j).x i).cal)∧Hid (Below w4.heap.size w4 wr))
   case atStart=>exact⟨0,0,none,fun _=>.no,rfl,rfl,⟨rfl,Nat.zero_le _⟩,OX.out,(fun i hi=>absurd hi (Nat.not_lt_zero i)),Below.refl _ _⟩
   case round=>
    clear OX;obtain⟨q,cx,AX,X,rfl,rfl,HQ,HX,SX,BJ⟩:=hrel;have KJ:=Hj (K4.out.below BJ.out K4.out.lt);have BRJ:=Hj (BR4.out.trans (BJ.out.mono BR4.out.size));have t3:wr.cell? ⟨wq.heap.size,3,none⟩=some (.slice (k j).h.xs.ao (k j).h.xs.n (k j).h.xs.c):=KJ.out.cell 3
    by_cases hlx:q<(k j).h.xs.n
    ·have z1:(q:Int)<((k j).h.xs.n:Int):=by omega
     have ovq:IntKind.i64.wrap ((q:Int)+1)=((q+1:Nat):Int):=by have:=HNX.out;rw[IntKind.wrap_i64];omega
     obtain⟨a2,b2,o2,ha2,hA2,hb2,X7,IX⟩:=(XX.out wr BRJ.out).at hlx;rw[ha2]at t3;have x0:=X7.c0;have x1:=X7.c1;have x2:=X7.c2;have x3:=X7.c3;have x4:=X7.c4;have x5:=X7.c5;have x6:=X7.c6;have CP:=Hj (MVX.out q hlx wr IX BRJ.out);have HLX:=Hj hlx;have LN:Hid (q+1≤maxLen):=by show _≤_;have:=HNX.out;unfold maxLen;omega
     have LB:Hid ((q+1)*72≤140737488355328):=by show _≤_;have:=HNX.out;omega
     have ONE:Hid (∀e':Ex,∀u∈e'.h.vs,u.oneCell'=true):=fun e'=>by simp[EH.vs,Value.oneCell']
     clear X7 hb2 IX hlx ha2;go_wp2_with fail;refine CP.out.mono ?_;rintro r w8 ⟨x',rfl,xe,se,b8⟩;have XEX:=Hj xe;have SEX:=Hj se;have B8:=Hj b8;clear xe se b8 CP x0 x1 x2 x3 x4 x5 x6 t3;unfold EH.v
     go_wp2_with (at_builtin;refine wpList_append_moved _ rfl _ _ 40 rfl w4.heap.size 42 i1 zeroH.v 7 72 Tryz.underlying40 HI1.out.1 HI1.out.2.1 HI1.out.2.2.1 HI1.out.2.2.2 rfl (by decide) (.slice AX q cx) q (rowE X q) rfl (own_belowK HX.out.own (bel_alloc B8.out (.cells x'.h.vs.toArray 42))) ⟨w8.heap.size,0,none⟩ 1 1 x'.h.vs rfl rfl (new_oneE w8 x') (ONE.out x') LN.out LB.out (Nat.le_trans HX.out.sz (bel_alloc B8.out (.cells x'.h.vs.toArray 42)).size) ?_;intro v' w10 own' hgrow mv;obtain⟨D1,e1,rfl⟩:=own_form own')
     have BA:=bel_alloc B8.out (.cells x'.h.vs.toArray 42);have R2:=Hj (HX.out.add (XEX.out.bel (bel_one w8 (.cells x'.h.vs.toArray 42))) BA own' hgrow mv);have R5:=Hj (HX.out.bl BJ.out BA hgrow (fun g hg=>(own_block HX.out.own hg).1))
     have R4:Hid (∀i,i<q+1→((fun i=>if i<q then X i else x') i).eqv ((k j).x i).cal):=fun i hi=>by
      dsimp only;split
      ·rename_i h1;exact SX.out i h1
      ·obtain rfl:i=q:=by omega
       exact SEX.out
     clear BA own' hgrow mv XEX SEX B8 HX SX;go_wp2_with fail
     go_roundg ((k j).h.xs.n-(q+1))
     case measure=>have:=HQ.out;have:=HLX.out;omega
     case rel=>exact⟨q+1,e1,D1,fun i=>if i<q then X i else x',by go_num,by go_num,⟨rfl,HLX.out⟩,R2.out,R4.out,R5.out⟩
    ·obtain rfl:q=(k j).h.xs.n:=by have:=HQ.out;omega
     have z1:¬((k j).h.xs.n:Int)<((k j).h.xs.n:Int):=by omega
     obtain⟨S,hS,hSn,hXL⟩:=own_xl HX.out.own HX.out.xs;obtain⟨Sa,Sn,Sc⟩:=S
     obtain⟨rfl,hsn,rfl⟩:AX=Sa∧(k j).h.xs.n=Sn∧cx=Sc:=by
      have h:=hS;unfold Sl.val at h;injection h with h1 h2 h3;exact⟨h1,h2,h3⟩
     rw[←hsn]at hXL;have XL5:Hid (XL (Fro (wq.heap.size+1)) ⟨AX,(k j).h.xs.n,cx⟩ X wr):=hXL.imp (fro_up SZ4.out);have XE5:=Hj (XE4.out.bel BJ.out);have f3:=KJ.out.frozen 3;have q3:=KJ.out.lt;clear hlx hS hSn hXL HX MVX XX XE4 K4 BR4 hsn;go_upto_region 14 with fail;have K5:Hid (Blk (wr.setCell ⟨wq.heap.size,3,none⟩ (.slice AX (k j).h.xs.n cx)) wq.heap.size 48 (stvs (ndH (k j).h ⟨AX,(k j).h.xs.n,cx⟩ (k j).h.ts (k j).h.es) e'.h).toArray):=KJ.out.set_ 3 (.slice AX (k j).h.xs.n cx);have F5:=fx_set (Fx.refl (On wq.heap.size) _ wr) (p:=⟨wq.heap.size,3,none⟩) (.inl rfl) (.slice AX (k j).h.xs.n cx);have XL6:=Hj (F5.xl XL5.out);have XE6:=Hj (F5.xo XE5.out);have BR6:=Hj (fx_bel_of BRJ.out F5 (fun k hk (x:k=wq.heap.size)=>by omega));clear F5 XL5 XE5 BRJ KJ t3 f3 q3 BJ SZ4;generalize wr.setCell ⟨wq.heap.size,3,none⟩ (.slice AX (k j).h.xs.n cx)=w6 at *;have t13:w6.cell? ⟨wq.heap.size,13,none⟩=some (.slice (k j).h.ts.ao (k j).h.ts.n (k j).h.ts.c):=K5.out.cell 13;go_wp2_with fail;refine(BT.out _ BR6.out).mono ?_;rintro r w7 ⟨⟨ta,tn,tc⟩,KT,rfl,xt,htn,st,b7⟩;obtain rfl:tn=(k j).h.ts.n:=htn;have ST:=Hj st;have K7:=Hj (K5.out.below b7 K5.out.lt)
     have XT7:Hid (XB (Fro (wq.heap.size+1)) ⟨ta,(k j).h.ts.n,tc⟩ KT w7):=xt.imp (fro_up (show wq.heap.size+1≤w6.heap.size from K5.out.lt));have XL7:=Hj (XL6.out.bel b7);have XE7:=Hj (XE6.out.bel b7);have BR7:=Hj (BR6.out.trans (b7.mono BR6.out.size));clear xt st b7 XL6 XE6 BR6 K5 t13 BT w6;have m13:w7.cell? ⟨wq.heap.size,13,none⟩=some (.slice (k j).h.ts.ao (k j).h.ts.n (k j).h.ts.c):=K7.out.cell 13;have f13:=K7.out.frozen 13;have q13:=K7.out.lt;go_upto_region 15 with fail;have K8:Hid (Blk (w7.setCell ⟨wq.heap.size,13,none⟩ (.slice ta (k j).h.ts.n tc)) wq.heap.size 48 (stvs (ndH (k j).h ⟨AX,(k j).h.xs.n,cx⟩ ⟨ta,(k j).h.ts.n,tc⟩ (k j).h.es) e'.h).toArray):=K7.out.set_ 13 (.slice ta (k j).h.ts.n tc);have F8:=fx_set (Fx.refl (On wq.heap.size) _ w7) (p:=⟨wq.heap.size,13,none⟩) (.inl rfl) (.slice ta (k j).h.ts.n tc);have XL8:=Hj (F8.xl XL7.out);have XE8:=Hj (F8.xo XE7.out);have XT8:=Hj (F8.xb XT7.out);have BR8:=Hj (fx_bel_of BR7.out F8 (fun k hk (x:k=wq.heap.size)=>by omega));clear F8 XL7 XE7 XT7 BR7 K7 m13 f13 q13;generalize w7.setCell ⟨wq.heap.size,13,none⟩ (.slice ta (k j).h.ts.n tc)=w8 at *;clear w7
     have t14:w8.cell? ⟨wq.heap.size,14,none⟩=some (.slice (k j).h.es.ao (k j).h.es.n (k j).h.es.c):=K8.out.cell 14;go_wp2_with fail;refine(BE.out _ BR8.out).mono ?_;rintro r w9 ⟨⟨ea,en,ec⟩,KE,rfl,xt,htn,st,b7⟩;obtain rfl:en=(k j).h.es.n:=htn;have SL:=Hj st;have K9:=Hj (K8.out.below b7 K8.out.lt);have XM9:Hid (XB (Fro (wq.heap.size+1)) ⟨ea,(k j).h.es.n,ec⟩ KE w9):=xt.imp (fro_up (show wq.heap.size+1≤w8.heap.size from K8.out.lt));have XL9:=Hj (XL8.out.bel b7);have XE9:=Hj (XE8.out.bel b7);have XT9:=Hj (XT8.out.bel b7);have BR9:=Hj (BR8.out.trans (b7.mono BR8.out.size));clear xt st b7 XL8 XE8 XT8 BR8 K8 t14 BE w8;have m14:w9.cell? ⟨wq.heap.size,14,none⟩=some (.slice (k j).h.es.ao (k j).h.es.n (k j).h.es.c):=K9.out.cell 14;have f14:=K9.out.frozen 14;have q14:=K9.out.lt;go_upto_region 16 with fail;have KA:Hid (Blk (w9.setCell ⟨wq.heap.size,14,none⟩ (.slice ea (k j).h.es.n ec)) wq.heap.size 48 (stvs (ndH (k j).h ⟨AX,(k j).h.xs.n,cx⟩ ⟨ta,(k j).h.ts.n,tc⟩ ⟨ea,(k j).h.es.n,ec⟩) e'.h).toArray):=K9.out.set_ 14 (.slice ea (k j).h.es.n ec);have FA:=fx_set (Fx.refl (On wq.heap.size) _ w9) (p:=⟨wq.heap.size,14,none⟩) (.inl rfl) (.slice ea (k j).h.es.n ec);have XLA:=Hj (FA.xl XL9.out);have XEA:=Hj (FA.xo XE9.out)
     have XTA:=Hj (FA.xb XT9.out);have XMA:=Hj (FA.xb XM9.out);have BRA:=Hj (fx_bel_of BR9.out FA (fun k hk (x:k=wq.heap.size)=>by omega));clear FA XL9 XE9 XT9 XM9 BR9 K9 m14 f14 q14;generalize w9.setCell ⟨wq.heap.size,14,none⟩ (.slice ea (k j).h.es.n ec)=wa at *;clear w9;obtain⟨b,hb⟩:∃b,St.mk (ndH (k j).h ⟨AX,(k j).h.xs.n,cx⟩ ⟨ta,(k j).h.ts.n,tc⟩ ⟨ea,(k j).h.es.n,ec⟩) X e' KT KE=b:=⟨_,rfl⟩;have HH:Hid (b.h=(ndH (k j).h ⟨AX,(k j).h.xs.n,cx⟩ ⟨ta,(k j).h.ts.n,tc⟩ ⟨ea,(k j).h.es.n,ec⟩)∧b.e=e'):=by rw[←hb];exact⟨rfl,rfl⟩
     have XSA:Hid (XS (Fro (wq.heap.size+1)) b wa):=by rw[←hb];exact st_in (ndH_ok HLN.out OK.out XLA.out.1 XTA.out.1 XMA.out.1) XLA.out XEA.out XTA.out XMA.out
     have SMA:Hid (b.eqv (k j).nmd):=by rw[←hb];exact nd_same SX.out SE.out ST.out SL.out
     have LN:Hid (j+1≤maxLen):=by show _≤_;have:=HN.out;have:=HLT.out;unfold maxLen;omega
     have LB:Hid ((j+1)*184≤140737488355328):=by show _≤_;have:=HN.out;have:=HLT.out;omega
     have ONE:Hid (∀u∈stvs (ndH (k j).h ⟨AX,(k j).h.xs.n,cx⟩ ⟨ta,(k j).h.ts.n,tc⟩ ⟨ea,(k j).h.es.n,ec⟩) e'.h,u.oneCell'=true):=(by show ∀u∈stvs (ndH (k j).h ⟨AX,(k j).h.xs.n,cx⟩ ⟨ta,(k j).h.ts.n,tc⟩ ⟨ea,(k j).h.es.n,ec⟩) e'.h,u.oneCell'=true;simp[stvs,Value.oneCell']);clear hb XLA XEA XTA XMA SX SE ST SL
     go_wp2_with (first
      | refine ld_stm (ndH (k j).h ⟨AX,(k j).h.xs.n,cx⟩ ⟨ta,(k j).h.ts.n,tc⟩ ⟨ea,(k j).h.es.n,ec⟩) e'.h wq.heap.size KA.out rfl _ rfl rfl ?_
      | (refine bs_st (ndH (k j).h ⟨AX,(k j).h.xs.n,cx⟩ ⟨ta,(k j).h.ts.n,tc⟩ ⟨ea,(k j).h.es.n,ec⟩) e'.h rfl _ rfl rfl ?_;intro db wb hdb ZB BA;have NW:=new_stm ZB.out)
      | (refine wpList_append_moved wb rfl _ _ 23 rfl w.heap.size 48 i0 _ 15 184 Tryz.underlying23 HI0.out.1 HI0.out.2.1 HI0.out.2.2.1 HI0.out.2.2.2 rfl (by decide) (.slice A j cp) j _ rfl (HR.out.bel (BRA.out.trans (BA.out.mono BRA.out.size))).own ⟨db,0,none⟩ 1 1 (stvs (ndH (k j).h ⟨AX,(k j).h.xs.n,cx⟩ ⟨ta,(k j).h.ts.n,tc⟩ ⟨ea,(k j).h.es.n,ec⟩) e'.h) rfl rfl NW ONE.out LN.out LB.out (HR.out.bel (BRA.out.trans (BA.out.mono BRA.out.size))).bl.size ?_;intro v6 wz own6 gr6 mv6;obtain⟨D1,e1,rfl⟩:=own_form own6))
     have own7:=own6;rw[←HH.out.1,←HH.out.2]at own7;have R2:=Hj (HR.out.add ((XSA.out.bel BA.out).imp (fro_up (Nat.le_succ wq.heap.size))) (BRA.out.trans (BA.out.mono BRA.out.size)) own7 gr6 mv6)
     have R4:Hid (∀i,i<j+1→((fun i=>if i<j then K i else b) i).eqv (k i).nmd):=fun i hi=>by
      dsimp only;split
      ·rename_i h1;exact SJ.out i h1
      ·obtain rfl:i=j:=by omega
       exact SMA.out
     clear own6 own7 gr6 mv6 BA ZB NW XSA SMA KA BRA;go_wp2_with fail
     go_roundg (n-(j+1))
     case measure=>have:=HJ.out;have:=HLT.out;omega
     case rel=>exact⟨j+1,e1,D1,fun i=>if i<j then K i else b,by go_num,by go_num,⟨rfl,HLT.out⟩,R2.out,R4.out⟩
  ·obtain rfl:j=n:=by have:=HJ.out;omega
   have z0:¬(j:Int)<(j:Int):=by omega
   have XS:=Hj (own_xs HR.out.own HR.out.xs);have BB:=Hj HR.out.bl;clear hlt HR;go_wp2_with fail;go_ret;obtain⟨⟨Sa,Sn,Sc⟩,hS,hSn,hx⟩:=XS.out;unfold Sl.val at hS;injection hS with h1 h2 h3;subst h1 h2 h3;exact⟨⟨A,j,cp⟩,K,rfl,hx,rfl,SJ.out,BB.out⟩
theorem named_st (B:Nat)(s:St):s.wt≤100000→NdX B s.h.ts s.t∧NdX B s.h.es s.l:=by
 induction s using St.ind with
 | H s it il=>
  intro hw;obtain⟨-, -, -,h4,h5⟩:=st_kids hw;have q1:∀i,i<s.h.ts.n→(s.t i).wt≤100000:=fun i hi=>by have h3:=sm_one (f:=fun i=>(s.t i).wt) hi;have h6:(fun i=>(s.t i).wt) i=(s.t i).wt:=rfl;omega
  have q2:∀i,i<s.h.es.n→(s.l i).wt≤100000:=fun i hi=>by have h3:=sm_one (f:=fun i=>(s.l i).wt) hi;have h6:(fun i=>(s.l i).wt) i=(s.l i).wt:=rfl;omega
  exact⟨named_of B _ _ (Nat.le_trans (wt_rows s.t s.h.ts.n) h4) (fun i hi=>⟨(st_kids (q1 i hi)).1,st_nm (q1 i hi),(st_kids (q1 i hi)).2.1,(st_kids (q1 i hi)).2.2.1⟩) fun i hi=>it i hi (q1 i hi),
   named_of B _ _ (Nat.le_trans (wt_rows s.l s.h.es.n) h5) (fun i hi=>⟨(st_kids (q2 i hi)).1,st_nm (q2 i hi),(st_kids (q2 i hi)).2.1,(st_kids (q2 i hi)).2.2.1⟩) fun i hi=>il i hi (q2 i hi)⟩
theorem named_any (B:Nat)(s:Sl)(k:Nat→St)(hw:sm (fun i=>(k i).wt) s.n≤100000):NdX B s k:=by
 have q1:∀i,i<s.n→(k i).wt≤100000:=fun i hi=>by have h3:=sm_one (f:=fun i=>(k i).wt) hi;have h6:(fun i=>(k i).wt) i=(k i).wt:=rfl;omega
 exact named_of B s k (Nat.le_trans (wt_rows k s.n) hw) (fun i hi=>⟨(st_kids (q1 i hi)).1,st_nm (q1 i hi),(st_kids (q1 i hi)).2.1,(st_kids (q1 i hi)).2.2.1⟩) fun i hi=>named_st B (k i) (q1 i hi)
end Go.Proofs.YtkbicfffokegeaaGreatDoor
namespace Go.Proofs.YtkbicfffokegeaaGreatDoor
set_option maxHeartbeats 16000000
open Go.RowKit
set_option maxRecDepth 100000
theorem cksCongr {f f':Nat→Ck Int}{n:Nat}(h:∀i,i<n→f' i=f i):cks f' n=cks f n:=by
 induction n with
 | zero=>rfl
 | succ n ih=>simp only[cks];rw[ih fun i hi=>h i (by omega),h n (by omega)]
theorem seqCongr {f f':Nat→Ck Unit}{n:Nat}(h:∀i,i<n→f' i=f i):seqC f' n=seqC f n:=by
 induction n with
 | zero=>rfl
 | succ n ih=>simp only[seqC];rw[ih fun i hi=>h i (by omega),h n (by omega)]
theorem Sh.look {S S':Sc}(h:Sh S S')(x:List UInt8)(p:Int):S'.look x p=S.look x p:=by
 unfold Sc.look;rw[h.find,h.loops];split
 ·rfl
 ·cases hf:S.find x with
  | none=>rfl
  | some i=>
   have hd:=h.d i (fd_lt hf).1;simp only;rw[←hd.inp,←hd.ty,←hd.len,←h.init]
theorem Ex.ck_eqv {S S':Sc}(hS:Sh S S'){e:Ex}:∀ {f:Ex},e.eqv f→f.ck S'=e.ck S:=by
 induction e using Ex.ind with
 | H e ih=>
  intro f h;obtain⟨h1,h2,h3⟩:=(Ex.eqv_iff e f).1 h;simp only[hdS,Bool.and_eq_true,decide_eq_true_eq,beq_iff_eq]at h1;obtain⟨⟨⟨⟨⟨g1,g2⟩,g3⟩,g4⟩,g5⟩,g6⟩:=h1;rw[Ex.ck_eq S' f,Ex.ck_eq S e,←g1,←g4,←g5,←g6,h2,hS.look,cksCongr (f:=fun i=>(e.k i).ck S) fun i hi=>ih i hi (h3 i hi)];split
  ·congr 1
   funext tl
   by_cases c:0<e.h.s.n
   ·rw[ih 0 c (h3 0 c)]
   ·have c0:e.h.s.n=0:=by omega
    rw[c0];unfold opsC
    split<;>rfl
  ·rfl
theorem asgC_eqv {S S':Sc}(hS:Sh S S'){h h':SH}{x x':Nat→Ex}{e e':Ex}(hn:h.nm=h'.nm)(hx:h.xs.n=h'.xs.n)(hp:h'.ps=h.ps)(xs:∀i,i<h.xs.n→(x i).eqv (x' i))(es:e.eqv e') :
  asgC S' h' x' e'=asgC S h x e:=by
 unfold asgC;rw[←hn,←hx,hp,hS.find,hS.loops];split
 ·rfl
 ·cases hf:S.find h.nm with
  | none=>rfl
  | some i=>
   have hd:=hS.d i (fd_lt hf).1;simp only;rw[←hd.inp,←hd.ty,←hd.len,Ex.ck_eqv hS es,((Ex.eqv_iff _ _).1 es).2.1];split
   ·rfl
   ·split
    ·rfl
    ·rename_i c1 c2
     congr 1
     split
     ·rename_i c3
      have c4:0<h.xs.n:=by
       rcases Nat.eq_zero_or_pos h.xs.n with c5|c5
       ·exact absurd (.inl ⟨c3,by omega⟩) c2
       ·exact c5
      rw[Ex.ck_eqv hS (xs 0 c4),((Ex.eqv_iff _ _).1 (xs 0 c4)).2.1]
     ·rfl
theorem St.ck_eqv {nam:List UInt8→Bool}{s:St}:∀ {S S':Sc} {r:St},Sh S S'→s.eqv r→r.ck nam S'=s.ck nam S:=by
 induction s using St.ind with
 | H s it il=>
  intro S S' r hS h;obtain⟨h1,h2,h3,⟨h4,h5⟩,h6,h7⟩:=St.eqv_hd h;simp only[hsS,Bool.and_eq_true,decide_eq_true_eq,beq_iff_eq]at h1;obtain⟨⟨⟨⟨⟨g1,g2⟩,g3⟩,g4⟩,g5⟩,g6⟩:=h1
  rw[St.ck_eq nam r S',St.ck_eq nam s S,←g1,asgC_eqv hS g2 h4 h2 h5 h3,Ex.ck_eqv hS h3,((Ex.eqv_iff _ _).1 h3).2.1,←g2,←g3,←g4,←g5,←g6,h2,hS.find,←hS.loops,
   seqCongr (f:=fun i=>(s.t i).ck nam S) fun i hi=>it i hi hS (h6 i hi),seqCongr (f:=fun i=>(s.l i).ck nam S) fun i hi=>il i hi hS (h7 i hi),
   seqCongr (f:=fun i=>(s.t i).ck nam (S.inner s.h.nm)) fun i hi=>it i hi (hS.inner _) (h6 i hi)]
theorem deC_eqv {nam:List UInt8→Bool}{ran:De→Bool}{d d':Nat→De}(hr:∀a a':De,a.same a'=true→ran a=ran a'){i:Nat}(h:∀j,j≤i→(d j).eqv (d' j))(c:Int):deC nam ran d' i c=deC nam ran d i c:=by
 obtain⟨⟨h0,h1,h2,h3,h4, -⟩, -⟩:=h i (Nat.le_refl i);have e2:fd d' (d i).nm i=fd d (d i).nm i:=(fd_congr fun j hj=>(h j (Nat.le_of_lt hj)).1.2.2.1).symm;have e3:(d' i).cells=(d i).cells:=by unfold De.cells;rw[h1,h4]
 unfold deC;rw[←h2,←h3,e2,e3,←hr _ _ (De.eqv_same (h i (Nat.le_refl i))),h0]
theorem desC_eqv {nam:List UInt8→Bool}{ran:De→Bool}{d d':Nat→De}(hr:∀a a':De,a.same a'=true→ran a=ran a'){n:Nat}(h:∀j,j<n→(d j).eqv (d' j)):desC nam ran d' n=desC nam ran d n:=by
 induction n with
 | zero=>rfl
 | succ n ih=>
  simp only[desC];rw[ih fun j hj=>h j (by omega)]
  congr 1
  funext c
  exact deC_eqv hr (fun j hj=>h j (by omega)) c
theorem Pr.ck_eqv {nam:List UInt8→Bool}{ran:De→Bool}{p q:Pr}(hr:∀a a':De,a.same a'=true→ran a=ran a')(h:p.eqv q):q.ck nam ran=p.ck nam ran:=by
 obtain⟨h1,⟨d1,d2⟩,⟨i1,i2⟩,s1,s2⟩:=h;have hS:∀b,Sh ⟨p.ds.n,p.d,[],b⟩ ⟨p.ds.n,q.d,[],b⟩:=fun b=>⟨rfl,fun i hi=>by have g:=(d2 i hi).1;exact⟨g.2.1,g.2.2.1,g.2.2.2.1,g.2.2.2.2.1⟩,rfl,rfl⟩;unfold Pr.ck
 rw[←h1,←d1,←i1,←s1,desC_eqv hr d2,seqCongr (f:=fun i=>(p.i i).ck nam ⟨p.ds.n,p.d,[],true⟩) fun i hi=>St.ck_eqv (hS true) (i2 i hi),
  seqCongr (f:=fun i=>(p.s i).ck nam ⟨p.ds.n,p.d,[],false⟩) fun i hi=>St.ck_eqv (hS false) (s2 i hi)]
theorem sm_cg12 {f g:Nat→Nat}{n:Nat}(h:∀i,i<n→f i=g i):sm f n=sm g n:=by
 induction n with
 | zero=>rfl
 | succ n ih=>simp only[sm];rw[ih fun i hi=>h i (by omega),h n (by omega)]
theorem Ex.same_wt12 {e:Ex}:∀ {f:Ex},e.same f=true→e.wt=f.wt:=by
 induction e using Ex.ind with
 | H e ih=>
  intro f h;obtain⟨-, -, -, -,h5,h6,h7⟩:=Ex.same_iff.1 h;rw[Ex.wt_eq e,Ex.wt_eq f,h5,←h6,sm_cg12 fun i hi=>ih i hi (h7 i hi)]
theorem St.same_wt12 {s:St}:∀ {r:St},s.same r=true→s.wt=r.wt:=by
 induction s using St.ind with
 | H s it il=>
  intro r h;obtain⟨⟨-,h2, -, -,h5,h6⟩,h7,⟨h8,h9⟩,h10,h11⟩:=St.same_iff.1 h;rw[St.wt_eq s,St.wt_eq r,h2,←h5,←h6,←h8,Ex.same_wt12 h7,sm_cg12 fun i hi=>Ex.same_wt12 (h9 i hi),sm_cg12 fun i hi=>it i hi (h10 i hi),sm_cg12 fun i hi=>il i hi (h11 i hi)]
theorem De.same_wt12 {a b:De}(h:a.same b=true):a.wt=b.wt:=by
 obtain⟨-,h2, -, -, -,h6,h7⟩:=De.same_iff.1 h;unfold De.wt;rw[h2,Ex.same_wt12 h6,Ex.same_wt12 h7]
theorem Pr.same_wt12 {p q:Pr}(h:p.same q=true):p.wt=q.wt:=by
 obtain⟨-,h2,h3,h4⟩:=Pr.same_iff.1 h;rw[sameD_iff]at h2;rw[sameS_iff]at h3 h4;unfold Pr.wt;rw[←h2.1,←h3.1,←h4.1,sm_cg12 fun i hi=>De.same_wt12 (h2.2 i hi),sm_cg12 fun i hi=>St.same_wt12 (h3.2 i hi),sm_cg12 fun i hi=>St.same_wt12 (h4.2 i hi)]
def k12A:List UInt8:=[116,105,99,107,115,32,49,59,32,118,97,114,32,120,58,32,102,108,111,97,116,59,32,118,97,114,32,121,58,32,102,108,111,97,116,59,32,105,110,105,116,32,123,125,32,115,116,101,112,32,123,32,120,32,61,32,121,32,43,32,49,59,32,125]
def k12B:List UInt8:=[116,105,99,107,115,32,49,59,32,105,110,112,117,116,32,117,58,32,102,108,111,97,116,32,105,110,32,91,48,44,32,49,93,59,32,105,110,105,116,32,123,125,32,115,116,101,112,32,123,32,117,32,61,32,49,46,48,59,32,125]
def k12C:List UInt8:=[116,105,99,107,115,32,49,59,32,105,110,105,116,32,123,125,32,115,116,101,112,32,123,32,102,111,114,32,105,32,61,32,48,32,46,46,32,49,54,32,123,32,125,32,125]
def k12D:List UInt8:=[116,105,99,107,115,32,57,59,32,105,110,112,117,116,32,117,58,32,102,108,111,97,116,32,105,110,32,91,48,44,32,49,46,53,93,59,32,118,97,114,32,120,58,32,102,108,111,97,116,59,32,118,97,114,32,118,58,32,105,110,116,91,51,93,59,32,105,110,105,116,32,123,32,120,32,61,32,48,46,48,59,32,125,32,115,116,101,112,32,123,32,102,111,114,32,105,32,61,32,48,32,46,46,32,50,32,123,32,118,91,105,93,32,61,32,118,91,50,32,45,32,105,93,32,43,32,105,110,116,40,117,32,42,32,120,41,59,32,125,32,105,102,32,120,32,60,32,117,32,38,38,32,33,40,118,91,48,93,32,61,61,32,51,41,32,123,32,120,32,61,32,45,117,59,32,125,32,125]
def ckOf (r:Rs Pr)(e p:Int):Bool:=match r with
 | .ok q _=>decide ((q.ck isnV raN).er=e) && decide ((q.ck isnV raN).pl=p) && decide (q.wt≤1000)
 | .no _ _=>false
theorem k12A_is:ckOf (rsP k12A) 122 58=true:=by decide +kernel
theorem k12B_is:ckOf (rsP k12B) 124 50=true:=by decide +kernel
theorem k12C_is:ckOf (rsP k12C) 123 24=true:=by decide +kernel
theorem k12D_is:ckOf (rsP k12D) 0 0=true:=by decide +kernel
theorem of12_any (l:List UInt8)(e q:Int)(h:ckOf (rsP l) e q=true)(w:World)(hE:Env9 w):Calls Tryz.prog 17 #[.string ⟨l.toArray⟩] w fun r w'=>r=.returned (.tuple #[.int .i64 e,.int .i64 q])∧Below w.heap.size w w':=by
 have P:=ppParse_any ⟨l.toArray⟩ w hE;change Calls _ _ _ _ (PTop w (rsP l) noPr (VP w.heap.size))at P;have HE:=Hj hE;clear hE;generalize rsP l=R at *
 cases R with
 | no c p=>cases h
 | ok p s=>
  simp only[ckOf,Bool.and_eq_true,decide_eq_true_eq]at h;obtain⟨⟨h1,h2⟩,h3⟩:=h;have HH:=Hj (And.intro h1 (And.intro h2 h3));clear h1 h2 h3;go_enter Tryz.func17,Tryz.ntmps17;go_wp2_with fail;refine P.mono ?_;rintro r w1 ⟨v,rfl,⟨p',rfl,xp,ep⟩,b1⟩;have hI:p'.In w1.heap.size w1:=⟨xp.1,DsIn.stay xp.2.1 (stay_up _ _) (Nat.le_refl _),SsIn.stay xp.2.2.1 (stay_up _ _) (Nat.le_refl _),SsIn.stay xp.2.2.2 (stay_up _ _) (Nat.le_refl _)⟩;have ep':p'.eqv p:=ep;have EC:Hid (p'.ck isnV raN=p.ck isnV raN):=(Pr.ck_eqv (fun a a' h=>raN_same h) ep').symm
  have EW:Hid (p'.wt≤1000000):=by
   show p'.wt≤1000000;rw[Pr.same_wt12 (Pr.eqv_same ep')];exact Nat.le_trans HH.out.2.2 (by decide)
  have BLb:=bx_bel (Below.refl w1.heap.size w1) (Nat.le_refl _) (pO p');have G1:Hid ((bx w1 (pO p')).heap[w1.heap.size]? = some (pO p')):=bx_new w1 _;have B1:=Hj (bel_trans b1 BLb)
  have XA:Hid (p'.In (bx w1 (pO p')).heap.size (bx w1 (pO p'))):=by
   have:=hI.below BLb (Nat.le_refl _);exact⟨this.1,this.2.1.mono (fun _ _=>rfl) BLb.size,this.2.2.1.mono (fun _ _=>rfl) BLb.size,this.2.2.2.mono (fun _ _=>rfl) BLb.size⟩
  clear xp ep ep' hI b1 BLb P;dsimp only[Rs.er,Rs.pl];unfold Pr.v;go_upto_region 2 with fail;rw[bx_p];change Code.wp _ _ _ _ (bx w1 (pO p'));generalize w1.heap.size=ga at *;generalize bx w1 (pO p')=w2 at *;have C:=Hj (ccCheck_any p' w2 (HE.out.below B1.out) XA.out EW.out);rw[EC.out,HH.out.1,HH.out.2.1]at C;obtain⟨x0,x1,x2,x3⟩:=p_cells G1.out;go_wp2_with fail;refine C.out.mono ?_;rintro r w3 ⟨rfl,b3⟩;have B3:=Hj (bel_trans B1.out b3);clear C b3 x0 x1 x2 x3;go_wp2_with fail
  go_ret2
  exact⟨rfl,B3.out⟩
theorem works12_any (w:World)(hE:Env9 w):Calls Tryz.prog 7 #[] w fun r w'=>r=.returned (.bool true)∧Below w.heap.size w w':=by
 have HE:=Hj hE;have PA:=Hj (of12_any k12A _ _ k12A_is);have PB:=Hj (of12_any k12B _ _ k12B_is);have PC:=Hj (of12_any k12C _ _ k12C_is);have PD:=Hj (of12_any k12D _ _ k12D_is);clear hE;go_enter Tryz.func7,Tryz.ntmps7;go_wp2_with fail;refine(PA.out w HE.out).mono ?_;rintro r w1 ⟨rfl,b1⟩;have B1:=Hj b1;have E1:=Hj (HE.out.below b1);clear b1 PA;go_wp2_with fail;refine(PB.out w1 E1.out).mono ?_;rintro r w2 ⟨rfl,b2⟩;have B2:=Hj (bel_trans B1.out b2);have E2:=Hj (E1.out.below b2);clear b2 PB;go_wp2_with fail;refine(PC.out w2 E2.out).mono ?_;rintro r w3 ⟨rfl,b3⟩;have B3:=Hj (bel_trans B2.out b3);have E3:=Hj (E2.out.below b3);clear b3 PC;go_wp2_with fail;refine(PD.out w3 E3.out).mono ?_;rintro r w4 ⟨rfl,b4⟩;have B4:=Hj (bel_trans B3.out b4);clear b4 PD;go_wp2_with fail;go_ret;exact⟨rfl,B4.out⟩
end Go.Proofs.YtkbicfffokegeaaGreatDoor
