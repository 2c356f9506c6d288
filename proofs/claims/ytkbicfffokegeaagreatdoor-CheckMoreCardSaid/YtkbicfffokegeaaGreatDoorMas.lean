/-
  Whatever program and statement are handed in, CheckMore answers true. (part 19 of 30) Conditions: none beside what the card ties.
-/
import Derived.Test.YtkbicfffokegeaaGreatDoorMar
namespace Go.Proofs.YtkbicfffokegeaaGreatDoor
set_option maxHeartbeats 16000000
open Go.RowKit
set_option maxRecDepth 100000
theorem pporSign_any (x:List UInt8)(w:World):Calls Tryz.prog 179 #[.string ⟨x.toArray⟩] w fun e w'=>e=.returned (.int .u8 (sgO 0 x))∧w'=w:=by
 go_enter Tryz.func179,Tryz.ntmps179;go_wp2_with fail
 all_goals
  go_ret;refine⟨?_,rfl⟩;simp only[beq_iff_eq,beq_eq_false_iff_ne,ne_eq]at *
  first
   | (subst_vars;rfl)
   | (unfold sgO;simp only[*];rfl)
theorem ppandSign_any (x:List UInt8)(w:World):Calls Tryz.prog 207 #[.string ⟨x.toArray⟩] w fun e w'=>e=.returned (.int .u8 (sgO 1 x))∧w'=w:=by
 go_enter Tryz.func207,Tryz.ntmps207;go_wp2_with fail
 all_goals
  go_ret;refine⟨?_,rfl⟩;simp only[beq_iff_eq,beq_eq_false_iff_ne,ne_eq]at *
  first
   | (subst_vars;rfl)
   | (unfold sgO;simp only[*];rfl)
theorem ppcmpSign_any (x:List UInt8)(w:World):Calls Tryz.prog 230 #[.string ⟨x.toArray⟩] w fun e w'=>e=.returned (.int .u8 (sgO 2 x))∧w'=w:=by
 go_enter Tryz.func230,Tryz.ntmps230;go_wp2_with fail
 all_goals
  go_ret;refine⟨?_,rfl⟩;simp only[beq_iff_eq,beq_eq_false_iff_ne,ne_eq]at *
  first
   | (subst_vars;rfl)
   | (unfold sgO;simp only[*];rfl)
theorem ppsumSign_any (x:List UInt8)(w:World):Calls Tryz.prog 245 #[.string ⟨x.toArray⟩] w fun e w'=>e=.returned (.int .u8 (sgO 3 x))∧w'=w:=by
 go_enter Tryz.func245,Tryz.ntmps245;go_wp2_with fail
 all_goals
  go_ret;refine⟨?_,rfl⟩;simp only[beq_iff_eq,beq_eq_false_iff_ne,ne_eq]at *
  first
   | (subst_vars;rfl)
   | (unfold sgO;simp only[*];rfl)
theorem ppprodSign_any (x:List UInt8)(w:World):Calls Tryz.prog 257 #[.string ⟨x.toArray⟩] w fun e w'=>e=.returned (.int .u8 (sgO 4 x))∧w'=w:=by
 go_enter Tryz.func257,Tryz.ntmps257;go_wp2_with fail
 all_goals
  go_ret;refine⟨?_,rfl⟩;simp only[beq_iff_eq,beq_eq_false_iff_ne,ne_eq]at *
  first
   | (subst_vars;rfl)
   | (unfold sgO;simp only[*];rfl)
theorem ppunarySign_any (x:List UInt8)(w:World):Calls Tryz.prog 267 #[.string ⟨x.toArray⟩] w fun e w'=>e=.returned (.int .u8 (unT x))∧w'=w:=by
 go_enter Tryz.func267,Tryz.ntmps267;go_wp2_with fail
 all_goals
  go_ret;refine⟨?_,rfl⟩;simp only[beq_iff_eq,beq_eq_false_iff_ne,ne_eq]at *
  first
   | (subst_vars;rfl)
   | (unfold unT;simp only[*];rfl)
theorem ppatomOp_any (t:Tk)(w:World):Calls Tryz.prog 277 #[t.v] w fun e w'=>e=.returned (.int .u8 (atT t))∧Below w.heap.size w w':=by
 show Calls Tryz.prog 277 #[.agg #[.int .u8 t.kd,.int .i64 t.ps,.string ⟨t.tx.toArray⟩,.int .i32 t.nn,.int .u64 t.ff]] w _;go_enter Tryz.func277,Tryz.ntmps277;go_wp2_with fail
 all_goals
  go_ret;refine⟨?_,(Below.refl _ _).alloc (Nat.le_refl _) _⟩;simp only[beq_iff_eq,beq_eq_false_iff_ne,ne_eq]at *;unfold atT;simp only[*]
  first|contradiction|rfl|(simp;done)
def Dbin (D:Nat→Prop)(w:World):Nat→Prop:=fun k=>D k∧k≠w.heap.size∧k≠w.heap.size+1
theorem ppbinary_of (R d n l:Nat)(p:PS→Rs Ex)(hp:Reads R d n p)(hn:Runs n)(s:PS)(e1 e:Ex)(w:World)(D:Nat→Prop)(hL:¬D R)(hLw:∀k,w.heap.size≤k→D k)(h:Rdr R d s w)(hk:s.hd.kd≠0)(hx:XO D e1 w)(he:e1.eqv e)
  (ho:0≤sgO l s.hd.tx∧sgO l s.hd.tx≤255) :
  Calls Tryz.prog 205 #[.pointer (some ⟨R,0,none⟩),.int .u8 (sgO l s.hd.tx),e1.h.v,.func (.func n) #[.pointer (some ⟨R,0,none⟩)] #[]] w (PO R d w (binr l p e s) (VD D)):=by
 have ft:=fun w=>tkv_ps s.hd w;have hcf:=hn #[.pointer (some ⟨R,0,none⟩)];clear hn;have hd:=h.good.hd;have P0:0≤s.hd.ps:=hd.ps0;have P1:s.hd.ps≤16384:=hd.ps1;have LR:=h.lt;have BL:Below w.heap.size w ((bx w (xO e1.h)).alloc zX):=bel_alloc (bx_bel (Below.refl _ _) (Nat.le_refl _) _) _;have HR:=Hj (h.below BL h.lt);have OB:Hid (Blk ((bx w (xO e1.h)).alloc zX) w.heap.size 42 e1.h.va):=(bx_ex w e1.h).alloc zX;have NB:Hid (Blk ((bx w (xO e1.h)).alloc zX) (w.heap.size+1) 42 zeroH.va):=by have:=Blk.new (bx w (xO e1.h)) 42 zeroH.va;rw[bx_size]at this;exact this
 have D1:¬Dbin D w R:=fun x=>hL x.1;have HX:=Hj ((hx.imp (D':=Dbin D w) (fun k hk x=>⟨x,by omega,by omega⟩)).bel BL);have HSZ:Hid (w.heap.size+2≤((bx w (xO e1.h)).alloc zX).heap.size):=by show w.heap.size+2≤_;rw[World.size_alloc,bx_size];exact Nat.le_refl _
 have HD:=Hj D1;clear D1;have HF:Hid (Fx (On R) w.heap.size w ((bx w (xO e1.h)).alloc zX)):=Fx.of BL;have HG:=Hj (And.intro h.good hk);have HO:=Hj (And.intro ho (And.intro P0 P1));have HLL:=Hj (And.intro hL (And.intro hLw LR));have HS:=Hj hd;clear BL h hx hd ho P0 P1 LR hk hL hLw;show Calls Tryz.prog 205 #[.pointer (some ⟨R,0,none⟩),.int .u8 (sgO l s.hd.tx),.agg #[.int .u8 e1.h.op,.int .i64 e1.h.ps,.bool e1.h.bo,.int .i32 e1.h.it,.int .u64 e1.h.fl,.string ⟨e1.h.nm.toArray⟩,.slice e1.h.s.ao e1.h.s.n e1.h.s.c],.func (.func n) #[.pointer (some ⟨R,0,none⟩)] #[]] w _;generalize hop:sgO l s.hd.tx=op at *;have HOP:=Hj hop;clear hop;go_enter Tryz.func205,Tryz.ntmps205;go_upto_region 1 with fail;rw[bx_x];change (Code.region 1 _ _).wp _ _ _ ((bx w (xO e1.h)).alloc zX);generalize (bx w (xO e1.h)).alloc zX=wy at *;go_wp2_with fail;refine(pptake_any R d s wy HR.out HG.out.2).mono ?_;rintro r w1 ⟨rfl,h1,f1⟩;have HR1:=Hj h1;have OB1:=Hj (f1.blk OB.out OB.out.lt (on_ne HLL.out.2.2));have NB1:=Hj (f1.blk NB.out NB.out.lt (on_ne (Nat.lt_succ_of_lt HLL.out.2.2)));have HX1:=Hj (HX.out.fx f1 (on_not HD.out));have HS1:=Hj (Nat.le_trans HSZ.out f1.size);have HF1:=Hj (fx_trans HF.out f1);clear HR OB NB HX HF f1 h1 HSZ
 go_wp2_with fail;refine(hp s.tk w1 HR1.out).mono ?_;intro r w2 hpo
 cases hres:p s.tk with
 | no c q=>
  rw[hres]at hpo;obtain⟨rfl,f2⟩:=hpo;have HF2:=Hj (fx_trans HF1.out f2);have E:Hid (binr l p e s=.no c q):=by show _=_;unfold binr;rw[hres];rfl
  clear f2 hres;go_wp2_with fail;refine⟨rfl,?_⟩;rw[E.out];exact⟨rfl,HF2.out⟩
 | ok b s2=>
  rw[hres]at hpo;obtain⟨v,rfl,⟨b',rfl,xb,eb⟩,h2,f2⟩:=hpo;have E:Hid (binr l p e s=whole (opX op s.hd.ps [e,b]) s2):=by show _=_;unfold binr;rw[hres,HOP.out];rfl
  have hs1:=HS1.out;have hs2:=f2.size;have BLb:=bx_bel (Below.refl w2.heap.size w2) (Nat.le_refl _) (xO b'.h);have HXb:=Hj ((xb.imp (D':=Dbin D w) (fun k _ (x:w1.heap.size≤k)=>⟨HLL.out.2.1 k (by omega),by omega,by omega⟩)).bel BLb);have HS3:Hid (w.heap.size+2≤(bx w2 (xO b'.h)).heap.size):=by show w.heap.size+2≤_;rw[bx_size];omega
  have BB:Hid (Blk (bx w2 (xO b'.h)) w2.heap.size 42 b'.h.va):=bx_ex w2 b'.h;have HR2:=Hj (h2.below BLb h2.lt);have o1:=f2.blk OB1.out OB1.out.lt (on_ne HLL.out.2.2);have n1:=f2.blk NB1.out NB1.out.lt (on_ne (Nat.lt_succ_of_lt HLL.out.2.2));have OB2:=Hj (o1.below BLb o1.lt);have NB2:=Hj (n1.below BLb n1.lt);have HX2:=Hj ((HX1.out.fx f2 (on_not HD.out)).bel BLb);have HF2:=Hj (fx_bel (fx_trans HF1.out f2) BLb);have EB:=Hj eb;clear hres HR1 OB1 NB1 HX1 HF1 o1 n1 xb eb h2 f2 BLb hs1 hs2 HS1;unfold EH.v;go_upto_region 3 with fail;rw[bx_x];generalize w2.heap.size=g at *;generalize bx w2 (xO b'.h)=w3 at *
  go_wp2_with (first
   | refine ld_ex e1.h w.heap.size OB2.out rfl _ rfl rfl ?_
   | refine ld_ex b'.h g BB.out rfl _ rfl rfl ?_)
  have BL4:=bel_one w3 (.cells (e1.h.vs++b'.h.vs).toArray 42);have HX4:=Hj (two_in (op:=op) (ps:=s.hd.ps) HX2.out HXb.out ⟨HLL.out.2.1 _ HF2.out.size,Nat.ne_of_gt (Nat.lt_of_lt_of_le (by omega) HS3.out),Nat.ne_of_gt (Nat.lt_of_lt_of_le (by omega) HS3.out)⟩ HO.out.1.1 HO.out.1.2 HO.out.2.1 HO.out.2.2 (t:=42) rfl);have HR4:=Hj (HR2.out.below BL4 HR2.out.lt);have NB4:=Hj (NB2.out.below BL4 NB2.out.lt);have HF4:=Hj (fx_bel HF2.out BL4);clear BL4 HX2 HXb HR2 OB2 NB2 HF2 BB;change Calls _ _ _ (w3.alloc (.cells (e1.h.vs++b'.h.vs).toArray 42)) _;generalize w3.alloc (.cells (e1.h.vs++b'.h.vs).toArray 42)=w4 at *;generalize w3.heap.size=k at *;refine(ppcomplete_any R d s2 ⟨op,s.hd.ps,false,0,0,[],⟨some ⟨k,0,none⟩,2,2⟩⟩ w4 HR4.out (opX op s.hd.ps [e,b]) rfl).mono ?_;intro r w5 hpo
  cases hres:whole (opX op s.hd.ps [e,b]) s2 with
  | no c q=>
   rw[hres]at hpo;obtain⟨rfl,f5⟩:=hpo;have HF5:=Hj (fx_trans HF4.out f5);have E5:=Hj (E.out.trans hres);clear f5 hres;go_wp2_with fail;refine⟨rfl,?_⟩;rw[E5.out];exact⟨rfl,HF5.out⟩
  | ok a s5=>
   rw[hres]at hpo;obtain⟨v,rfl,rfl,h5,f5⟩:=hpo;have E5:=Hj (E.out.trans hres);have ha:=whole_ok hres;subst ha;have HF5:=Hj (fx_trans HF4.out f5);have HR5:=Hj h5;have NB5:=Hj (f5.blk NB4.out NB4.out.lt (on_ne (Nat.lt_succ_of_lt HLL.out.2.2)));have HX5:=Hj (HX4.out.fx f5 (on_not HD.out));clear f5 hres h5 HX4 HR4 NB4 HF4 E
   go_wp2_with (refine st_ex ⟨op,s.hd.ps,false,0,0,[],⟨some ⟨k,0,none⟩,2,2⟩⟩ (w.heap.size+1) _ NB5.out rfl rfl _ _ rfl rfl rfl ?_)
   refine bodyPost_ret (rs_ex rfl _ _ (w.heap.size+1) ⟨op,s.hd.ps,false,0,0,[],⟨some ⟨k,0,none⟩,2,2⟩⟩ rfl (NB5.out.rowS _)) rfl ?_;rw[E5.out];exact⟨_,rfl,⟨_,rfl,(HX5.out.row (fun x=>x.2.2 rfl) _).imp (fun k _ x=>x.1),two_eqv he EB.out⟩,HR5.out.row (Nat.lt_succ_of_lt HLL.out.2.2) _,fx_row HF5.out (.inr (Nat.le_succ _)) _⟩
theorem ppchain_of (R d n m l:Nat)(p:PS→Rs Ex)(hp:Reads R d n p)(hn:Runs n)(hm:∀(x:List UInt8) (w:World),Calls Tryz.prog m #[.string ⟨x.toArray⟩] w fun e w'=>e=.returned (.int .u8 (sgO l x))∧w'=w)(hrm:Runs m)(hrd:Rdx p)
  (ho:∀x,0≤sgO l x∧sgO l x≤255) (s:PS) (w:World) (h:Rdr R d s w) :
  Calls Tryz.prog 177 #[.pointer (some ⟨R,0,none⟩),.func (.func n) #[.pointer (some ⟨R,0,none⟩)] #[],.func (.func m) #[] #[]] w (PO R d w ((p s).bind fun e s'=>chain l p (s'.ts.length+1) e s') (VX w.heap.size)):=by
 have ft:=fun t w=>tkv_tx t w;have hcn:=hn #[.pointer (some ⟨R,0,none⟩)];have hcm:=fun(x:List UInt8)=>hrm #[.string ⟨x.toArray⟩];have HPn:=Hj hn;clear hn hrm;have BL:=bel_one w zX;have HR:=Hj (h.alloc zX);have NB:Hid (Blk (w.alloc zX) w.heap.size 42 zeroH.va):=Blk.new _ _ _;have HLT:=Hj h.lt;have HF:Hid (Fx (On R) w.heap.size w (w.alloc zX)):=Fx.of BL;have HSZ:Hid (w.heap.size+1≤(w.alloc zX).heap.size):=by show w.heap.size+1≤_;rw[World.size_alloc];exact Nat.le_refl _
 have HGD:=Hj h.good;clear BL h;generalize hZ:(p s).bind (fun e s'=>chain l p (s'.ts.length+1) e s')=Z;have HZ:=Hj hZ;clear hZ;go_enter Tryz.func177,Tryz.ntmps177;go_upto_region 1 with fail;change (Code.region 1 _ _).wp _ _ _ (w.alloc zX);generalize w.alloc zX=wx at *;go_wp2_with fail;refine(hp s wx HR.out).mono ?_;intro r w1 hpo
 cases hres:p s with
 | no c q=>
  rw[hres]at hpo;obtain⟨rfl,f1⟩:=hpo;have HF1:=Hj (fx_trans HF.out f1);have E:Hid (Z=.no c q):=by show Z=_;rw[←HZ.out,hres];rfl
  clear f1 hres;go_wp2_with fail;refine⟨rfl,?_⟩;rw[E.out];exact⟨rfl,HF1.out⟩
 | ok e0 s0=>
  rw[hres]at hpo;obtain⟨v,rfl,⟨b,rfl,xb,eb⟩,h1,f1⟩:=hpo;have hlf:=(hrd s HGD.out) e0 s0 hres;have E:Hid (chain l p (s0.ts.length+1) e0 s0=Z):=by show _=Z;rw[←HZ.out,hres];rfl
  have BLb:=bx_bel (Below.refl w1.heap.size w1) (Nat.le_refl _) (xO b.h);have hs1:=f1.size;have hs0:=HSZ.out;have HX1:=Hj ((xb.imp (D':=fun k=>w.heap.size<k∧k≠w1.heap.size) (fun k hk (x:wx.heap.size≤k)=>⟨by omega,by omega⟩)).bel BLb);have HG1:Hid (w.heap.size<w1.heap.size):=by show w.heap.size<w1.heap.size;omega
  have BB:Hid (Blk (bx w1 (xO b.h)) w1.heap.size 42 b.h.va):=bx_ex w1 b.h;have HR1:=Hj (h1.below BLb h1.lt);have n1:=f1.blk NB.out NB.out.lt (on_ne HLT.out);have NB1:=Hj (n1.below BLb n1.lt);have HF1:=Hj (fx_bel (fx_trans HF.out f1) BLb);have EB:=Hj eb;have HSZ1:Hid (w1.heap.size<(bx w1 (xO b.h)).heap.size):=by show w1.heap.size<_;rw[bx_size];exact Nat.lt_succ_self _
  clear hres xb h1 f1 BLb hs1 hs0 HSZ HR NB HF eb n1 hlf HGD HZ;unfold EH.v;go_wp2_with fail;rw[bx_x];generalize w1.heap.size=g at *;generalize bx w1 (xO b.h)=w2 at *
  go_loopg [8] s0.ts.length (fun gk _ wr=>∃(e e':Ex) (s:PS) (f:Nat),Hid (gk=s.ts.length)∧Hid (Blk wr g 42 e'.h.va)∧Hid (XO (fun k=>w.heap.size<k∧k≠g) e' wr)∧Hid (e'.eqv e)∧Hid (Rdr R d s wr)∧Hid (Fx (On R) w.heap.size w wr)∧Hid (Blk wr w.heap.size 42 zeroH.va)∧Hid (s.ts.length<f)∧Hid (chain l p f e s=Z))
  case atStart=>exact⟨e0,b,s0,s0.ts.length+1,rfl,BB,HX1,EB,HR1,HF1,NB1,Nat.lt_succ_self _,E⟩
  case round=>
   clear BB HX1 EB HR1 HF1 NB1 E HSZ1;obtain⟨e,e',s,f,HGK,BB,HX,EB,HR,HF,NB,HFL,HZ⟩:=hrel;obtain⟨f,rfl⟩:∃f',f=f'+1:=⟨f - 1,by have:=HFL.out;omega⟩;have NX:=Hj (ppnext_any R d s wr HR.out)
   by_cases c:sgO l s.hd.tx=0
   ·have E:Hid (Z=.ok e s):=by show Z=_;rw[←HZ.out,chain,if_pos c]
    clear HZ;go_wp2_with fail;refine NX.out.mono ?_;rintro r w3 ⟨rfl,hb⟩;have BB2:=Hj (BB.out.below hb BB.out.lt);have NB2:=Hj (NB.out.below hb NB.out.lt);have HX2:=Hj (HX.out.bel hb);have HR2:=Hj (HR.out.below hb HR.out.lt);have HF2:=Hj (fx_bel HF.out hb);clear BB NB HX HR HF NX hb;go_wp2_with fail;refine(hm s.hd.tx w3).mono ?_;rintro r w4 ⟨rfl,rfl⟩;rw[c]
    go_wp2_with (first
     | refine ld_ex e'.h g BB2.out rfl _ rfl rfl ?_
     | refine st_ex e'.h w.heap.size _ NB2.out rfl rfl _ _ rfl rfl rfl ?_)
    refine bodyPost_ret (rs_ex rfl _ _ w.heap.size e'.h rfl (NB2.out.rowS _)) rfl ?_;rw[E.out];exact⟨_,rfl,⟨e',rfl,(HX2.out.row (fun x=>Nat.lt_irrefl _ x.1) _).imp (fun k _ x=>Nat.le_of_lt x.1),EB.out⟩,HR2.out.row HLT.out _,fx_row HF2.out (.inr (Nat.le_refl _)) _⟩
   ·have E:Hid ((binr l p e s).bind (fun e' s'=>chain l p f e' s')=Z):=by show _=Z;rw[←HZ.out,chain,if_neg c]
    have hk:s.hd.kd≠0:=HR.out.good.kd (sgO_ne c);have HK:=Hj hk;have HLF:=Hj (lf_bin (e:=e) hrd HR.out.good c);have c2:(sgO l s.hd.tx == 0)=false:=by simp[c]
    have BI:=Hj fun w D hL hLw h hx=>ppbinary_of R d n l p hp HPn.out s e' e w D hL hLw h hk hx EB.out (ho _);have HM:=Hj (hm s.hd.tx);have HPO:=Hj HR.out.good.pos;clear HZ hk c;generalize sgO l s.hd.tx=op at *;go_wp2_with fail;refine NX.out.mono ?_;rintro r w3 ⟨rfl,hb⟩;have BB2:=Hj (BB.out.below hb BB.out.lt);have NB2:=Hj (NB.out.below hb NB.out.lt);have HX2:=Hj (HX.out.bel hb);have HR2:=Hj (HR.out.below hb HR.out.lt);have HF2:=Hj (fx_bel HF.out hb);clear BB NB HX HR HF NX hb;go_wp2_with fail;refine(HM.out w3).mono ?_;rintro r w4 ⟨rfl,rfl⟩
    go_wp2_with (refine ld_ex e'.h g BB2.out rfl _ rfl rfl ?_)
    refine(BI.out w4 (fun k=>w.heap.size<k∧k≠g) (fun x=>Nat.lt_asymm x.1 HLT.out) (fun k hk=>⟨Nat.lt_of_lt_of_le (Nat.lt_trans HG1.out BB2.out.lt) hk,Nat.ne_of_gt (Nat.lt_of_lt_of_le BB2.out.lt hk)⟩) HR2.out HX2.out).mono ?_;intro r w5 hpo
    cases hres:binr l p e s with
    | no c q=>
     rw[hres]at hpo;obtain⟨rfl,f5⟩:=hpo;have HF5:=Hj (fx_trans HF2.out f5);have E5:Hid (Z=.no c q):=by show Z=_;rw[←E.out,hres];rfl
     clear f5 hres;go_wp2_with fail;refine⟨rfl,?_⟩;rw[E5.out];exact⟨rfl,HF5.out⟩
    | ok e2 s2=>
     rw[hres]at hpo;obtain⟨v,rfl,⟨b2,rfl,xb,eb⟩,h5,f5⟩:=hpo;have E5:Hid (chain l p f e2 s2=Z):=by show _=Z;rw[←E.out,hres];rfl
     have HL5:=Hj (HLF.out _ _ hres);have HF5:=Hj (fx_trans HF2.out f5);have HRg:Hid (R<g):=Nat.lt_trans HLT.out HG1.out;have BB5:=Hj (f5.blk BB2.out BB2.out.lt (on_ne HRg.out));have NB5:=Hj (f5.blk NB2.out NB2.out.lt (on_ne HLT.out));have HX5:=Hj xb;have HR5:=Hj h5;have EB5:=Hj eb;clear f5 hres xb h5 eb BB2 NB2 HF2 HR2 HX2 E HLF
     go_wp2_with (refine st_ex b2.h g _ BB5.out rfl rfl _ _ rfl rfl rfl ?_)
     go_roundg s2.ts.length
     case measure=>have:=HPO.out;have:=HL5.out.2.1;have:=HGK.out;omega
     case rel=>exact⟨e2,b2,s2,f,rfl,BB5.out.rowS _,HX5.out.row (fun x=>x.2 rfl) _,EB5,HR5.out.row HRg.out _,fx_row HF5.out (.inr (Nat.le_of_lt HG1.out)) _,NB5.out.off (Nat.ne_of_lt HG1.out) _,(by show s2.ts.length<f;have:=HPO.out;have:=HL5.out.2.1;have:=HFL.out;omega),E5⟩
theorem sgO_bd (l:Nat)(x:List UInt8):0≤sgO l x∧sgO l x≤255:=by
 unfold sgO
 (repeat' split)<;>decide
theorem runs_of {n:Nat}{fn:Func}{c:Code}(hf:Tryz.prog.funcs[n]? = some fn)(hname:(fn.name == "runtime.NumGoroutine")=false)(hb:fn.body=some c):Runs n:=fun args w=>by
 have h1:fn.name ≠ "runtime.NumGoroutine":=by simpa using hname
 simp[callFunc,hf,h1,hb]
theorem lvl_chain (u:PS→Rs Ex)(m:Nat)(h:m≠2)(s:PS):lvl u (m+1) s=(lvl u m s).bind fun e s'=>chain (4-m) (lvl u m) (s'.ts.length+1) e s':=by
 rw[lvl];simp only[if_neg h]
theorem runs_unary:Runs 256:=runs_of (by rfl) (by kernel_rfl) rfl
theorem runs_prod:Runs 244:=runs_of (by rfl) (by kernel_rfl) rfl
theorem runs_sum:Runs 229:=runs_of (by rfl) (by kernel_rfl) rfl
theorem runs_cmp:Runs 206:=runs_of (by rfl) (by kernel_rfl) rfl
theorem runs_and:Runs 178:=runs_of (by rfl) (by kernel_rfl) rfl
theorem runs_s0:Runs 179:=runs_of (by rfl) (by kernel_rfl) rfl
theorem runs_s1:Runs 207:=runs_of (by rfl) (by kernel_rfl) rfl
theorem runs_s3:Runs 245:=runs_of (by rfl) (by kernel_rfl) rfl
theorem runs_s4:Runs 257:=runs_of (by rfl) (by kernel_rfl) rfl
theorem ppprod_of (R d:Nat)(u:PS→Rs Ex)(hu:Reads R d 256 (lvl u 0))(hrd:Rdx (lvl u 0)):Reads R d 244 (lvl u 1):=by
 intro s w h;have hmf:∀(fn:Fn) (first cap:Array Value) (w:World),(Instr.makeFunc fn first cap).run Tryz.prog w=.ok (.func fn first cap) w:=fun _ _ _ _=>rfl;have NB:Hid (Blk (w.alloc zX) w.heap.size 42 zeroH.va):=Blk.new _ _ _;have BL:=bel_one w zX;have C:=Hj (ppchain_of R d 256 257 4 (lvl u 0) hu runs_unary ppprodSign_any runs_s4 hrd (sgO_bd 4) s (w.alloc zX) (h.alloc zX));rw[←lvl_chain u 0 (by decide) s]at C;have HLT:=Hj h.lt;have hz:(w.alloc zX).heap.size=w.heap.size+1:=World.size_alloc ..;rw[hz]at C;have HF:Hid (Fx (On R) w.heap.size w (w.alloc zX)):=Fx.of BL;clear BL h hz hu hrd;generalize lvl u 1 s=Z at *;go_enter Tryz.func244,Tryz.ntmps244;go_upto_region 1 with fail;change (Code.region 1 _ _).wp _ _ _ (w.alloc zX);generalize w.alloc zX=wx at *;go_wp2_with fail;refine C.out.mono ?_;intro r w1 hpo;clear C
 cases Z with
 | no c q=>
  obtain⟨rfl,f1⟩:=hpo;have HF1:=Hj (fx_trans HF.out f1);clear f1;go_wp2_with fail;exact⟨rfl,rfl,HF1.out⟩
 | ok e s1=>
  obtain⟨v,rfl,⟨b,rfl,xb,eb⟩,h1,f1⟩:=hpo;have HF1:=Hj (fx_trans HF.out f1);have NB1:=Hj (f1.blk NB.out NB.out.lt (on_ne HLT.out));have HX1:=Hj xb;have HR1:=Hj h1;have EB:=Hj eb;clear f1 xb h1 eb NB HF
  go_wp2_with (refine st_ex b.h w.heap.size _ NB1.out rfl rfl _ _ rfl rfl rfl ?_)
  exact bodyPost_ret (rs_ex rfl _ _ w.heap.size b.h rfl (NB1.out.rowS _)) rfl ⟨_,rfl,⟨b,rfl,(HX1.out.row (fun(x:w.heap.size+1≤w.heap.size)=>by omega) _).imp (fun k _ (x:w.heap.size+1≤k)=>(by show w.heap.size≤k;omega)),EB.out⟩,HR1.out.row HLT.out _,fx_row HF1.out (.inr (Nat.le_refl _)) _⟩
theorem ppsum_of (R d:Nat)(u:PS→Rs Ex)(hu:Reads R d 244 (lvl u 1))(hrd:Rdx (lvl u 1)):Reads R d 229 (lvl u 2):=by
 intro s w h;have hmf:∀(fn:Fn) (first cap:Array Value) (w:World),(Instr.makeFunc fn first cap).run Tryz.prog w=.ok (.func fn first cap) w:=fun _ _ _ _=>rfl;have NB:Hid (Blk (w.alloc zX) w.heap.size 42 zeroH.va):=Blk.new _ _ _;have BL:=bel_one w zX;have C:=Hj (ppchain_of R d 244 245 3 (lvl u 1) hu runs_prod ppsumSign_any runs_s3 hrd (sgO_bd 3) s (w.alloc zX) (h.alloc zX));rw[←lvl_chain u 1 (by decide) s]at C;have HLT:=Hj h.lt;have hz:(w.alloc zX).heap.size=w.heap.size+1:=World.size_alloc ..;rw[hz]at C;have HF:Hid (Fx (On R) w.heap.size w (w.alloc zX)):=Fx.of BL;clear BL h hz hu hrd;generalize lvl u 2 s=Z at *;go_enter Tryz.func229,Tryz.ntmps229;go_upto_region 1 with fail;change (Code.region 1 _ _).wp _ _ _ (w.alloc zX);generalize w.alloc zX=wx at *;go_wp2_with fail;refine C.out.mono ?_;intro r w1 hpo;clear C
 cases Z with
 | no c q=>
  obtain⟨rfl,f1⟩:=hpo;have HF1:=Hj (fx_trans HF.out f1);clear f1;go_wp2_with fail;exact⟨rfl,rfl,HF1.out⟩
 | ok e s1=>
  obtain⟨v,rfl,⟨b,rfl,xb,eb⟩,h1,f1⟩:=hpo;have HF1:=Hj (fx_trans HF.out f1);have NB1:=Hj (f1.blk NB.out NB.out.lt (on_ne HLT.out));have HX1:=Hj xb;have HR1:=Hj h1;have EB:=Hj eb;clear f1 xb h1 eb NB HF
  go_wp2_with (refine st_ex b.h w.heap.size _ NB1.out rfl rfl _ _ rfl rfl rfl ?_)
  exact bodyPost_ret (rs_ex rfl _ _ w.heap.size b.h rfl (NB1.out.rowS _)) rfl ⟨_,rfl,⟨b,rfl,(HX1.out.row (fun(x:w.heap.size+1≤w.heap.size)=>by omega) _).imp (fun k _ (x:w.heap.size+1≤k)=>(by show w.heap.size≤k;omega)),EB.out⟩,HR1.out.row HLT.out _,fx_row HF1.out (.inr (Nat.le_refl _)) _⟩
theorem ppand_of (R d:Nat)(u:PS→Rs Ex)(hu:Reads R d 206 (lvl u 3))(hrd:Rdx (lvl u 3)):Reads R d 178 (lvl u 4):=by
 intro s w h;have hmf:∀(fn:Fn) (first cap:Array Value) (w:World),(Instr.makeFunc fn first cap).run Tryz.prog w=.ok (.func fn first cap) w:=fun _ _ _ _=>rfl;have NB:Hid (Blk (w.alloc zX) w.heap.size 42 zeroH.va):=Blk.new _ _ _;have BL:=bel_one w zX;have C:=Hj (ppchain_of R d 206 207 1 (lvl u 3) hu runs_cmp ppandSign_any runs_s1 hrd (sgO_bd 1) s (w.alloc zX) (h.alloc zX));rw[←lvl_chain u 3 (by decide) s]at C;have HLT:=Hj h.lt;have hz:(w.alloc zX).heap.size=w.heap.size+1:=World.size_alloc ..;rw[hz]at C;have HF:Hid (Fx (On R) w.heap.size w (w.alloc zX)):=Fx.of BL;clear BL h hz hu hrd;generalize lvl u 4 s=Z at *;go_enter Tryz.func178,Tryz.ntmps178;go_upto_region 1 with fail;change (Code.region 1 _ _).wp _ _ _ (w.alloc zX);generalize w.alloc zX=wx at *;go_wp2_with fail;refine C.out.mono ?_;intro r w1 hpo;clear C
 cases Z with
 | no c q=>
  obtain⟨rfl,f1⟩:=hpo;have HF1:=Hj (fx_trans HF.out f1);clear f1;go_wp2_with fail;exact⟨rfl,rfl,HF1.out⟩
 | ok e s1=>
  obtain⟨v,rfl,⟨b,rfl,xb,eb⟩,h1,f1⟩:=hpo;have HF1:=Hj (fx_trans HF.out f1);have NB1:=Hj (f1.blk NB.out NB.out.lt (on_ne HLT.out));have HX1:=Hj xb;have HR1:=Hj h1;have EB:=Hj eb;clear f1 xb h1 eb NB HF
  go_wp2_with (refine st_ex b.h w.heap.size _ NB1.out rfl rfl _ _ rfl rfl rfl ?_)
  exact bodyPost_ret (rs_ex rfl _ _ w.heap.size b.h rfl (NB1.out.rowS _)) rfl ⟨_,rfl,⟨b,rfl,(HX1.out.row (fun(x:w.heap.size+1≤w.heap.size)=>by omega) _).imp (fun k _ (x:w.heap.size+1≤k)=>(by show w.heap.size≤k;omega)),EB.out⟩,HR1.out.row HLT.out _,fx_row HF1.out (.inr (Nat.le_refl _)) _⟩
theorem ppexpr_of (R d:Nat)(u:PS→Rs Ex)(hu:Reads R d 178 (lvl u 4))(hrd:Rdx (lvl u 4)):Reads R d 151 (lvl u 5):=by
 intro s w h;have hmf:∀(fn:Fn) (first cap:Array Value) (w:World),(Instr.makeFunc fn first cap).run Tryz.prog w=.ok (.func fn first cap) w:=fun _ _ _ _=>rfl;have NB:Hid (Blk (w.alloc zX) w.heap.size 42 zeroH.va):=Blk.new _ _ _;have BL:=bel_one w zX;have C:=Hj (ppchain_of R d 178 179 0 (lvl u 4) hu runs_and pporSign_any runs_s0 hrd (sgO_bd 0) s (w.alloc zX) (h.alloc zX));rw[←lvl_chain u 4 (by decide) s]at C;have HLT:=Hj h.lt;have hz:(w.alloc zX).heap.size=w.heap.size+1:=World.size_alloc ..;rw[hz]at C;have HF:Hid (Fx (On R) w.heap.size w (w.alloc zX)):=Fx.of BL;clear BL h hz hu hrd;generalize lvl u 5 s=Z at *;go_enter Tryz.func151,Tryz.ntmps151;go_upto_region 1 with fail;change (Code.region 1 _ _).wp _ _ _ (w.alloc zX);generalize w.alloc zX=wx at *;go_wp2_with fail;refine C.out.mono ?_;intro r w1 hpo;clear C
 cases Z with
 | no c q=>
  obtain⟨rfl,f1⟩:=hpo;have HF1:=Hj (fx_trans HF.out f1);clear f1;go_wp2_with fail;exact⟨rfl,rfl,HF1.out⟩
 | ok e s1=>
  obtain⟨v,rfl,⟨b,rfl,xb,eb⟩,h1,f1⟩:=hpo;have HF1:=Hj (fx_trans HF.out f1);have NB1:=Hj (f1.blk NB.out NB.out.lt (on_ne HLT.out));have HX1:=Hj xb;have HR1:=Hj h1;have EB:=Hj eb;clear f1 xb h1 eb NB HF
  go_wp2_with (refine st_ex b.h w.heap.size _ NB1.out rfl rfl _ _ rfl rfl rfl ?_)
  exact bodyPost_ret (rs_ex rfl _ _ w.heap.size b.h rfl (NB1.out.rowS _)) rfl ⟨_,rfl,⟨b,rfl,(HX1.out.row (fun(x:w.heap.size+1≤w.heap.size)=>by omega) _).imp (fun k _ (x:w.heap.size+1≤k)=>(by show w.heap.size≤k;omega)),EB.out⟩,HR1.out.row HLT.out _,fx_row HF1.out (.inr (Nat.le_refl _)) _⟩
theorem lvl_cmp (u:PS→Rs Ex)(s:PS):lvl u 3 s=(lvl u 2 s).bind fun e s'=>if sgO 2 s'.hd.tx=0 then .ok e s' else binr 2 (lvl u 2) e s':=by
 rw[lvl];simp only[if_pos]
theorem ppcmp_of (R d:Nat)(u:PS→Rs Ex)(hu:Reads R d 229 (lvl u 2)):Reads R d 206 (lvl u 3):=by
 intro s w h;have hmf:∀(fn:Fn) (first cap:Array Value) (w:World),(Instr.makeFunc fn first cap).run Tryz.prog w=.ok (.func fn first cap) w:=fun _ _ _ _=>rfl;have ft:=fun t w=>tkv_tx t w;have NB:Hid (Blk (w.alloc zX) w.heap.size 42 zeroH.va):=Blk.new _ _ _;have BL:=bel_one w zX;have C:=Hj (hu s (w.alloc zX) (h.alloc zX));have HLT:=Hj h.lt;have hz:(w.alloc zX).heap.size=w.heap.size+1:=World.size_alloc ..;rw[hz]at C;have HF:Hid (Fx (On R) w.heap.size w (w.alloc zX)):=Fx.of BL;rw[lvl_cmp];generalize hP:lvl u 2=P at *;generalize hZ:(P s).bind (fun e s'=>if sgO 2 s'.hd.tx=0 then .ok e s' else binr 2 P e s')=Z;have HZ:=Hj hZ;have HSZ:=Hj hz;clear BL h hz hZ hP;go_enter Tryz.func206,Tryz.ntmps206;go_upto_region 1 with fail;change (Code.region 1 _ _).wp _ _ _ (w.alloc zX);generalize w.alloc zX=wx at *;go_wp2_with fail;refine C.out.mono ?_;intro r w1 hpo;clear C
 cases hres:P s with
 | no c q=>
  rw[hres]at hpo;obtain⟨rfl,f1⟩:=hpo;have HF1:=Hj (fx_trans HF.out f1);have E:Hid (Z=.no c q):=by show Z=_;rw[←HZ.out,hres];rfl
  clear f1 hres;go_wp2_with fail;refine⟨rfl,?_⟩;rw[E.out];exact⟨rfl,HF1.out⟩
 | ok e s1=>
  rw[hres]at hpo;obtain⟨v,rfl,⟨b,rfl,xb,eb⟩,h1,f1⟩:=hpo;have E:Hid ((if sgO 2 s1.hd.tx=0 then .ok e s1 else binr 2 P e s1)=Z):=by show _=Z;rw[←HZ.out,hres];rfl
  have BLb:=bx_bel (Below.refl w1.heap.size w1) (Nat.le_refl _) (xO b.h);have hs1:=f1.size;have hs0:=HSZ.out;have HX1:=Hj ((xb.imp (D':=fun k=>w.heap.size<k∧k≠w1.heap.size) (fun k hk (x:w.heap.size+1≤k)=>⟨by omega,by omega⟩)).bel BLb);have HG1:Hid (w.heap.size<w1.heap.size):=by show w.heap.size<w1.heap.size;omega
  have BB:Hid (Blk (bx w1 (xO b.h)) w1.heap.size 42 b.h.va):=bx_ex w1 b.h;have HR1:=Hj (h1.below BLb h1.lt);have n1:=f1.blk NB.out NB.out.lt (on_ne HLT.out);have NB1:=Hj (n1.below BLb n1.lt);have HF1:=Hj (fx_bel (fx_trans HF.out f1) BLb);have EB:=Hj eb;clear hres xb h1 f1 BLb hs1 hs0 HSZ NB HF eb n1 HZ;unfold EH.v;go_upto_region 2 with fail;rw[bx_x];generalize w1.heap.size=g at *;generalize bx w1 (xO b.h)=w2 at *;go_wp2_with fail;refine(ppnext_any R d s1 w2 HR1.out).mono ?_;rintro r w3 ⟨rfl,hb⟩;have BB2:=Hj (BB.out.below hb BB.out.lt);have NB2:=Hj (NB1.out.below hb NB1.out.lt);have HX2:=Hj (HX1.out.bel hb);have HR2:=Hj (HR1.out.below hb HR1.out.lt);have HF2:=Hj (fx_bel HF1.out hb);clear BB NB1 HX1 HR1 HF1 hb;go_wp2_with fail;refine(ppcmpSign_any s1.hd.tx w3).mono ?_;rintro r w4 ⟨rfl,rfl⟩
  by_cases c:sgO 2 s1.hd.tx=0
  ·have E2:Hid (Z=.ok e s1):=by show Z=_;rw[←E.out,if_pos c]
   rw[c];clear E
   go_wp2_with (first
    | refine ld_ex b.h g BB2.out rfl _ rfl rfl ?_
    | refine st_ex b.h w.heap.size _ NB2.out rfl rfl _ _ rfl rfl rfl ?_)
   refine bodyPost_ret (rs_ex rfl _ _ w.heap.size b.h rfl (NB2.out.rowS _)) rfl ?_;rw[E2.out];exact⟨_,rfl,⟨b,rfl,(HX2.out.row (fun x=>Nat.lt_irrefl _ x.1) _).imp (fun k _ x=>Nat.le_of_lt x.1),EB.out⟩,HR2.out.row HLT.out _,fx_row HF2.out (.inr (Nat.le_refl _)) _⟩
  ·have E2:Hid (binr 2 P e s1=Z):=by show _=Z;rw[←E.out,if_neg c]
   have hk:s1.hd.kd≠0:=HR2.out.good.kd (sgO_ne c);have c2:(sgO 2 s1.hd.tx == 0)=false:=by simp[c]
   have BI:=Hj fun w D hL hLw h hx=>ppbinary_of R d 229 2 P hu runs_sum s1 b e w D hL hLw h hk hx EB.out (sgO_bd 2 _);clear hk c E;generalize sgO 2 s1.hd.tx=op at *
   go_wp2_with (refine ld_ex b.h g BB2.out rfl _ rfl rfl ?_)
   refine(BI.out w4 (fun k=>w.heap.size<k∧k≠g) (fun x=>Nat.lt_asymm x.1 HLT.out) (fun k hk=>⟨Nat.lt_of_lt_of_le (Nat.lt_trans HG1.out BB2.out.lt) hk,Nat.ne_of_gt (Nat.lt_of_lt_of_le BB2.out.lt hk)⟩) HR2.out HX2.out).mono ?_;intro r w5 hpo
   cases hres:binr 2 P e s1 with
   | no c q=>
    rw[hres]at hpo;obtain⟨rfl,f5⟩:=hpo;have HF5:=Hj (fx_trans HF2.out f5);have E5:Hid (Z=.no c q):=by show Z=_;rw[←E2.out,hres]
    clear f5 hres;go_wp2_with fail;refine⟨rfl,?_⟩;rw[E5.out];exact⟨rfl,HF5.out⟩
   | ok e2 s2=>
    rw[hres]at hpo;obtain⟨v,rfl,⟨b2,rfl,xb,eb⟩,h5,f5⟩:=hpo;have E5:Hid (Z=.ok e2 s2):=by show Z=_;rw[←E2.out,hres]
    have HF5:=Hj (fx_trans HF2.out f5);have HRg:Hid (R<g):=Nat.lt_trans HLT.out HG1.out;have BB5:=Hj (f5.blk BB2.out BB2.out.lt (on_ne HRg.out));have NB5:=Hj (f5.blk NB2.out NB2.out.lt (on_ne HLT.out));have HX5:=Hj xb;have HR5:=Hj h5;have EB5:=Hj eb;clear f5 hres xb h5 eb BB2 NB2 HF2 HR2 HX2 E2
    go_upto_region 5 with(refine st_ex b2.h g _ BB5.out rfl rfl _ _ rfl rfl rfl ?_)
    have BB6:=Hj (BB5.out.rowS b2.h.va);have NB6:=Hj (NB5.out.off (Nat.ne_of_lt HG1.out) b2.h.va);have HX6:=Hj (HX5.out.row (fun x=>x.2 rfl) b2.h.va);have HR6:=Hj (HR5.out.row HRg.out b2.h.va);have HF6:=Hj (fx_row HF5.out (.inr (Nat.le_of_lt HG1.out)) b2.h.va);clear BB5 NB5 HX5 HR5 HF5;generalize w5.setRow g b2.h.va=w6 at *
    go_wp2_with (first
     | refine ld_ex b2.h g BB6.out rfl _ rfl rfl ?_
     | refine st_ex b2.h w.heap.size _ NB6.out rfl rfl _ _ rfl rfl rfl ?_)
    refine bodyPost_ret (rs_ex rfl _ _ w.heap.size b2.h rfl (NB6.out.rowS _)) rfl ?_;rw[E5.out];exact⟨_,rfl,⟨b2,rfl,(HX6.out.row (fun x=>Nat.lt_irrefl _ x.1) _).imp (fun k _ x=>Nat.le_of_lt x.1),EB5.out⟩,HR6.out.row HLT.out _,fx_row HF6.out (.inr (Nat.le_refl _)) _⟩
theorem ppexpr_any (R d:Nat)(u:PS→Rs Ex)(hu:Reads R d 256 u)(hrd:Rdx u):Reads R d 151 (lvl u 5):=
 ppexpr_of R d u (ppand_of R d u (ppcmp_of R d u (ppsum_of R d u (ppprod_of R d u hu hrd) (rdx_lvl hrd 1))) (rdx_lvl hrd 3)) (rdx_lvl hrd 4)
def PC {α:Type}(R d:Nat)(X:Nat→Prop)(w:World)(r:Rs α)(G:α→World→Prop)(e:Ending)(w':World):Prop:=
 match r with
 | .ok a s=>e=.returned (.tuple #[])∧G a w'∧Rdr R d s w'∧Fx X w.heap.size w w'
 | .no c p=>e=.panicked (flP c p)∧Fx X w.heap.size w w'
theorem Rdr.cell1 {R d:Nat}{s:PS}{w:World}(h:Rdr R d s w):w.cell? ⟨R,1,none⟩=some (.int .i64 (d:Int))∧w.frozen? ⟨R,1,none⟩=false:=by
 obtain⟨T,o,c,C⟩:=h.rc;exact⟨C.blk.cell 1,C.blk.frozen 1⟩
theorem Rdr.depth {R d d':Nat}{s:PS}{w:World}(h:Rdr R d s w)(hd:d'≤24):Rdr R d' s (w.setCell ⟨R,1,none⟩ (.int .i64 (d':Int))):=by
 obtain⟨T,o,c,C⟩:=h.rc;exact C.nums (C.blk.set_ 1 (.int .i64 (d':Int))) (Below.heap_setCell _ _ _ _ (Nat.ne_of_lt C.tr)) C.ns C.nx hd
theorem ppdeeper_max (R:Nat)(s:PS)(f:Value)(w:World)(h:Rdr R 24 s w) :
  Calls Tryz.prog 125 #[.pointer (some ⟨R,0,none⟩),f] w fun e w'=>e=.panicked (flP 111 s.hd.ps)∧Below w.heap.size w w':=by
 have ft:=fun w=>tkv_ps s.hd w;have c1:w.cell? ⟨R,1,none⟩=some (.int .i64 24):=h.cell1.1;have HR:=Hj h;clear h;go_enter Tryz.func125,Tryz.ntmps125;go_wp2_with fail;refine(ppnext_any R 24 s w HR.out).mono ?_;rintro r w1 ⟨rfl,hb⟩;have HB:=Hj hb;clear hb;go_wp2_with fail;refine(ppfail_any _ _ _).mono ?_;rintro r w2 ⟨rfl,rfl⟩;go_wp2_with fail;exact⟨rfl,rfl,HB.out⟩
theorem ppdeeper_of {α:Type}(R d n:Nat)(caps:Array Value)(X:Nat→Prop)(s:PS)(r:Rs α)(G:α→World→Prop)(hn:Runs n)(hX:X R)(hG:∀a w1 w2,G a w1→Fx (On R) w1.heap.size w1 w2→G a w2)(w:World)(h:Rdr R d s w)(hd:d<24)
  (H:∀w1,Rdr R (d+1) s w1→Fx (On R) w.heap.size w w1→Calls Tryz.prog n caps w1 (PC R (d+1) X w1 r G)) :
  Calls Tryz.prog 125 #[.pointer (some ⟨R,0,none⟩),.func (.func n) #[] caps] w (PC R d X w r G):=by
 have hcn:=hn caps;obtain⟨c1,z1⟩:=h.cell1;have hd2:¬(d:Int)=24:=by omega
 have ov:IntKind.i64.wrap ((d:Int)+1)=(d:Int)+1:=by rw[IntKind.wrap_i64];omega
 have ov2:wrap64 (d:Int)=(d:Int):=by unfold wrap64;omega
 have HR:=Hj (h.depth (d':=d+1) hd);have HF:Hid (Fx (On R) w.heap.size w (w.setCell ⟨R,1,none⟩ (.int .i64 ((d+1:Nat):Int)))):=fx_set (X:=On R) (Fx.refl _ _ _) (p:=⟨R,1,none⟩) (.inl rfl) _;have HD:=Hj hd;have HG:=Hj hG;have HX:=Hj hX;clear h hd hn hG hX;go_enter Tryz.func125,Tryz.ntmps125;go_upto_region 3 with fail;change (Code.region 3 _ _).wp _ _ _ (w.setCell ⟨R,1,none⟩ (.int .i64 ((d+1:Nat):Int)));generalize w.setCell ⟨R,1,none⟩ (.int .i64 ((d+1:Nat):Int))=w1 at *;have HC:=Hj (H w1 HR.out HF.out);clear H;go_wp2_with fail;refine HC.out.mono ?_;intro e w2 hpo
 cases r with
 | no c q=>
  obtain⟨rfl,f2⟩:=hpo;have HF2:=Hj (fx_trans (HF.out.mono (Nat.le_refl _) (fun k _ (x:k=R)=>by rw[x];exact HX.out)) f2);clear f2;go_wp2_with fail;exact⟨rfl,rfl,HF2.out⟩
 | ok a s2=>
  obtain⟨rfl,g,h2,f2⟩:=hpo;have HF2:=Hj (fx_trans (HF.out.mono (Nat.le_refl _) (fun k _ (x:k=R)=>by rw[x];exact HX.out)) f2);have d1:w2.cell? ⟨R,1,none⟩=some (.int .i64 ((d:Int)+1)):=h2.cell1.1;have y1:=h2.cell1.2;have HR2:=Hj (h2.depth (d':=d) (by have:=HD.out;omega));have HG2:=Hj (HG.out a w2 _ g (fx_set (X:=On R) (Fx.refl _ _ _) (p:=⟨R,1,none⟩) (.inl rfl) (.int .i64 (d:Int))));have HF3:=Hj (fx_set HF2.out (p:=⟨R,1,none⟩) (.inl HX.out) (.int .i64 (d:Int)));clear f2 g h2 HF2;go_wp2_with fail;exact bodyPost_end (results_none rfl _ _ _) rfl ⟨rfl,HG2.out,HR2.out,HF3.out⟩
def encl {α:Type}(d:Nat)(o c:List UInt8)(p:PS→Rs α)(s:PS):Rs α:=
 if s.hd.tx=o then(if d=24 then .no 111 s.hd.ps else(p s.tk).bind fun a s'=>(expT c s').bind fun _ s''=>.ok a s'')else bad s
theorem runs_encl1:Runs 126:=runs_of (by rfl) (by kernel_rfl) rfl
theorem ppencl1_of {α:Type}(R d n b0 b1 b2 B:Nat)(c:List UInt8)(hc:c≠[])(caps:Array Value)(X:Nat→Prop)(s:PS)(r:Rs α)(G:α→World→Prop)(hn:Runs n)(hX:X R)(hXB:∀k,X k→k<B)(hG:∀a w1 w2,G a w1→Fx (On R) w1.heap.size w1 w2→G a w2)
  (w:World) (h:Rdr R d s w) (hk:s.hd.kd≠0) (h0:Blk w b0 108 #[.pointer (some ⟨R,0,none⟩)]) (h1:Blk w b1 1 #[.func (.func n) #[] caps]) (h2:Blk w b2 9 #[.string ⟨c.toArray⟩]) (hb0:B≤b0) (hb1:B≤b1) (hb2:B≤b2)
  (H:∀w1,Rdr R d s.tk w1→Fx (On R) w.heap.size w w1→Calls Tryz.prog n caps w1 (PC R d X w1 r G)) :
  Calls Tryz.prog 126 #[.pointer (some ⟨b0,0,none⟩),.pointer (some ⟨b1,0,none⟩),.pointer (some ⟨b2,0,none⟩)] w (PC R d X w (r.bind fun a s'=>(expT c s').bind fun _ s''=>.ok a s'') G):=by
 have hcn:=hn caps;have c0:w.cell? ⟨b0,0,none⟩=some (.pointer (some ⟨R,0,none⟩)):=h0.cell 0;have HB:=Hj (And.intro h0 (And.intro h1 h2));have HR:=Hj h;have HK:=Hj hk;have HXX:=Hj (And.intro hX (And.intro hXB hG));have HN:=Hj (And.intro hb0 (And.intro hb1 hb2));generalize hZ:(r.bind fun a s'=>(expT c s').bind fun _ s''=>Rs.ok a s'')=Z;have HZ:=Hj hZ;clear h0 h1 h2 h hk hX hXB hG hb0 hb1 hb2 hn hZ;go_enter Tryz.func126,Tryz.ntmps126;go_wp2_with fail;refine(pptake_any R d s w HR.out HK.out).mono ?_;rintro e w1 ⟨rfl,h1,f1⟩;have ne:∀ {b},B≤b→¬On R b:=fun {b} hb (x:b=R)=>by have:=HXX.out.2.1 R HXX.out.1;omega
 have k0:=f1.blk HB.out.1 HB.out.1.lt (ne HN.out.1);have k1:=f1.blk HB.out.2.1 HB.out.2.1.lt (ne HN.out.2.1);have k2:=f1.blk HB.out.2.2 HB.out.2.2.lt (ne HN.out.2.2);have HC:=Hj (H w1 h1 f1);have HF1:Hid (Fx X w.heap.size w w1):=f1.mono (Nat.le_refl _) (fun k _ (x:k=R)=>by rw[x];exact HXX.out.1);have HB1:=Hj (And.intro k0 (And.intro k1 k2));have d1:w1.cell? ⟨b1,0,none⟩=some (.func (.func n) #[] caps):=k1.cell 0;clear HB HR k0 k1 k2 f1 h1 c0 ne H;go_wp2_with fail;refine HC.out.mono ?_;intro e w2 hpo;clear HC d1
 cases r with
 | no c' q=>
  obtain⟨rfl,f2⟩:=hpo;have HF2:=Hj (fx_trans HF1.out f2);have E:Hid (Z=.no c' q):=by show Z=_;rw[←HZ.out];rfl
  clear f2 HZ;go_wp2_with fail;refine⟨rfl,?_⟩;rw[E.out];exact⟨rfl,HF2.out⟩
 | ok a s2=>
  obtain⟨rfl,g,h2,f2⟩:=hpo;have ne:∀ {b},B≤b→¬X b:=fun {b} hb x=>by have:=HXX.out.2.1 b x;omega
  have k0:=f2.blk HB1.out.1 HB1.out.1.lt (ne HN.out.1);have k2:=f2.blk HB1.out.2.2 HB1.out.2.2.lt (ne HN.out.2.2);have d0:w2.cell? ⟨b0,0,none⟩=some (.pointer (some ⟨R,0,none⟩)):=k0.cell 0;have d2:w2.cell? ⟨b2,0,none⟩=some (.string ⟨c.toArray⟩):=k2.cell 0;have HF2:=Hj (fx_trans HF1.out f2);have HR2:=Hj h2;have HG2:=Hj g;have E:Hid ((expT c s2).bind (fun _ s''=>.ok a s'')=Z):=by show _=Z;rw[←HZ.out];rfl
  clear f2 g h2 k0 k2 ne HF1 HB1 HZ;go_wp2_with fail;refine(ppexpect_any R d s2 c hc w2 HR2.out).mono ?_;intro e w3 hpo
  cases hres:expT c s2 with
  | no c' q=>
   rw[hres]at hpo;obtain⟨rfl,f3⟩:=hpo;have HF3:=Hj (fx_trans HF2.out (f3.mono (Nat.le_refl _) (fun k _ (x:k=R)=>by rw[x];exact HXX.out.1)));have E3:Hid (Z=.no c' q):=by show Z=_;rw[←E.out,hres];rfl
   clear f3 hres;go_wp2_with fail;refine⟨rfl,?_⟩;rw[E3.out];exact⟨rfl,HF3.out⟩
  | ok u s3=>
   rw[hres]at hpo;obtain⟨v,rfl,hv,h3,f3⟩:=hpo;unfold V0 at hv;subst hv;have HF3:=Hj (fx_trans HF2.out (f3.mono (Nat.le_refl _) (fun k _ (x:k=R)=>by rw[x];exact HXX.out.1)));have E3:Hid (Z=.ok a s3):=by show Z=_;rw[←E.out,hres];rfl
   have HG3:=Hj (HXX.out.2.2 a w2 w3 HG2.out f3);have HR3:=Hj h3;clear f3 hres h3;go_wp2_with fail;refine bodyPost_end (results_none rfl _ _ _) rfl ?_;rw[E3.out];exact⟨rfl,HG3.out,HR3.out,HF3.out⟩
def oR (R:Nat):Obj:=.cells #[.pointer (some ⟨R,0,none⟩)] 108
def oT (c:List UInt8):Obj:=.cells #[.string ⟨c.toArray⟩] 9
def oF (n:Nat)(caps:Array Value):Obj:=.cells #[.func (.func n) #[] caps] 1
theorem ppenclosed_of {α:Type}(R d n:Nat)(o c:List UInt8)(ho:o≠[])(hc:c≠[])(caps:Array Value)(X:Nat→Prop)(s:PS)(p:PS→Rs α)(G:α→World→Prop)(hn:Runs n)(hX:X R)(hG:∀a w1 w2,G a w1→Fx (On R) w1.heap.size w1 w2→G a w2)
  (w:World) (h:Rdr R d s w) (hXB:∀k,X k→k<w.heap.size)
  (H:d<24→∀w1,Rdr R (d+1) s.tk w1→Fx (On R) w.heap.size w w1→Calls Tryz.prog n caps w1 (PC R (d+1) X w1 (p s.tk) G)) :
  Calls Tryz.prog 104 #[.pointer (some ⟨R,0,none⟩),.string ⟨o.toArray⟩,.string ⟨c.toArray⟩,.func (.func n) #[] caps] w (PC R d X w (encl d o c p s) G):=by
 have hmf:∀(fn:Fn) (first cap:Array Value) (w:World),(Instr.makeFunc fn first cap).run Tryz.prog w=.ok (.func fn first cap) w:=fun _ _ _ _=>rfl;have BL:Below w.heap.size w (((w.alloc (oR R)).alloc (oT c)).alloc (oF n caps)):=bel_alloc (bel_alloc (bel_one w _) _) _;have k0:Blk (((w.alloc (oR R)).alloc (oT c)).alloc (oF n caps)) w.heap.size 108 #[.pointer (some ⟨R,0,none⟩)]:=((Blk.new w _ _).alloc (oT c)).alloc (oF n caps)
 have k2:Blk (((w.alloc (oR R)).alloc (oT c)).alloc (oF n caps)) (w.heap.size+1) 9 #[.string ⟨c.toArray⟩]:=by
  have:=(Blk.new (w.alloc (oR R)) 9 #[.string ⟨c.toArray⟩]).alloc (oF n caps);rw[World.size_alloc]at this;exact this
 have k1:Blk (((w.alloc (oR R)).alloc (oT c)).alloc (oF n caps)) (w.heap.size+2) 1 #[.func (.func n) #[] caps]:=by
  have:=Blk.new ((w.alloc (oR R)).alloc (oT c)) 1 #[.func (.func n) #[] caps];rw[World.size_alloc,World.size_alloc]at this;exact this
 have HK:=Hj (And.intro k0 (And.intro k1 k2));have c0:(((w.alloc (oR R)).alloc (oT c)).alloc (oF n caps)).cell? ⟨w.heap.size,0,none⟩=some (.pointer (some ⟨R,0,none⟩)):=k0.cell 0;have HR:=Hj (h.below BL h.lt);have HF:Hid (Fx (On R) w.heap.size w (((w.alloc (oR R)).alloc (oT c)).alloc (oF n caps))):=Fx.of BL;have HXX:=Hj (And.intro hX (And.intro hXB hG));have HH:=Hj H;have HLT:=Hj h.lt;have HD:=Hj h.deep;have HN:=Hj hn;clear BL k0 k1 k2 h hX hXB hG H hn;generalize hZ:encl d o c p s=Z;have HZ:=Hj hZ;clear hZ;go_enter Tryz.func104,Tryz.ntmps104;go_upto_region 1 with fail;change (Code.region 1 _ _).wp _ _ _ (((w.alloc (oR R)).alloc (oT c)).alloc (oF n caps));generalize ((w.alloc (oR R)).alloc (oT c)).alloc (oF n caps)=wx at *;go_wp2_with fail;refine(ppsees_any R d s o wx HR.out).mono ?_;rintro e w1 ⟨rfl,hb⟩;have k0:=HK.out.1.below hb HK.out.1.lt;have k1:=HK.out.2.1.below hb HK.out.2.1.lt;have k2:=HK.out.2.2.below hb HK.out.2.2.lt;have HK1:=Hj (And.intro k0 (And.intro k1 k2));have HR1:=Hj (HR.out.below hb HR.out.lt);have HF1:=Hj (fx_bel HF.out hb);have d0:w1.cell? ⟨w.heap.size,0,none⟩=some (.pointer (some ⟨R,0,none⟩)):=k0.cell 0;clear k0 k1 k2 hb HK HR HF c0
 by_cases c1:s.hd.tx=o
 ·rw[beq_yes c1]
  by_cases c2:d=24
  ·subst c2
   have E:Hid (Z=.no 111 s.hd.ps):=by show Z=_;rw[←HZ.out];unfold encl;rw[if_pos c1,if_pos rfl]
   clear c1;go_wp2_with fail;refine(ppdeeper_max R s _ w1 HR1.out).mono ?_;rintro e w2 ⟨rfl,hb⟩;have HF2:=Hj (fx_bel HF1.out hb);clear hb;go_wp2_with fail;refine⟨rfl,?_⟩;rw[E.out];exact⟨rfl,HF2.out.mono (Nat.le_refl _) (fun k _ (x:k=R)=>by rw[x];exact HXX.out.1)⟩
  ·have E:Hid ((p s.tk).bind (fun a s'=>(expT c s').bind fun _ s''=>.ok a s'')=Z):=by show _=Z;rw[←HZ.out];unfold encl;rw[if_pos c1,if_neg c2]
   have hk:s.hd.kd≠0:=HR1.out.good.kd (by rw[←PS.hd,c1];exact ho);have hd:d<24:=by have:=HD.out;omega
   have DP:=Hj (ppdeeper_of R d 126 #[.pointer (some ⟨w.heap.size,0,none⟩),.pointer (some ⟨w.heap.size+2,0,none⟩),.pointer (some ⟨w.heap.size+1,0,none⟩)] X s ((p s.tk).bind (fun a s'=>(expT c s').bind fun _ s''=>.ok a s'')) G runs_encl1 HXX.out.1 HXX.out.2.2 w1 HR1.out hd
    (fun w2 h2 f2=>by
     have hl:=HLT.out;have q0:=f2.blk HK1.out.1 HK1.out.1.lt (on_ne hl);have q1:=f2.blk HK1.out.2.1 HK1.out.2.1.lt (on_ne (by omega));have q2:=f2.blk HK1.out.2.2 HK1.out.2.2.lt (on_ne (by omega))
     exact ppencl1_of R (d+1) n _ _ _ w.heap.size c hc caps X s (p s.tk) G HN.out HXX.out.1 HXX.out.2.1 HXX.out.2.2 w2 h2 hk q0 q1 q2 (Nat.le_refl _) (Nat.le_add_right _ _) (Nat.le_add_right _ _)
      (fun w3 h3 f3=>HH.out hd w3 h3 (fx_trans HF1.out (fx_trans f2 f3)))))
   rw[E.out]at DP;clear c1 c2 hk hd HH HK1 E HZ;go_wp2_with fail;refine DP.out.mono ?_;intro e w2 hpo;clear DP
   cases Z with
   | no c' q=>
    obtain⟨rfl,f2⟩:=hpo;have HF2:=Hj (fx_trans (HF1.out.mono (Nat.le_refl _) (fun k _ (x:k=R)=>by rw[x];exact HXX.out.1)) f2);clear f2;go_wp2_with fail;exact⟨rfl,rfl,HF2.out⟩
   | ok a s2=>
    obtain⟨rfl,g,h2,f2⟩:=hpo;have HF2:=Hj (fx_trans (HF1.out.mono (Nat.le_refl _) (fun k _ (x:k=R)=>by rw[x];exact HXX.out.1)) f2);have HG2:=Hj g;have HR2:=Hj h2;clear f2 g h2;go_wp2_with fail;exact bodyPost_end (results_none rfl _ _ _) rfl ⟨rfl,HG2.out,HR2.out,HF2.out⟩
 ·rw[beq_no c1]
  have E:Hid (Z=.no 110 s.hd.ps):=by show Z=_;rw[←HZ.out];unfold encl;rw[if_neg c1];rfl
  clear c1;go_wp2_with fail;refine(pprefuse_any R d s w1 HR1.out).mono ?_;rintro e w2 ⟨rfl,hb⟩;have HF2:=Hj (fx_bel HF1.out hb);clear hb;go_wp2_with fail;refine⟨rfl,?_⟩;rw[E.out];exact⟨rfl,HF2.out.mono (Nat.le_refl _) (fun k _ (x:k=R)=>by rw[x];exact HXX.out.1)⟩
end Go.Proofs.YtkbicfffokegeaaGreatDoor
