/-
  Whatever program is handed in, CheckChecks answers true. (part 24 of 38) Conditions: none beside what the card ties.
-/
import Derived.Test.YtkbicfffokegeaaGreatDoorCaq
namespace Go.Proofs.YtkbicfffokegeaaGreatDoor
set_option maxHeartbeats 16000000
open Go.RowKit
set_option maxRecDepth 100000
theorem mA (c p:Int)(w:World):Calls Tryz.prog 80 #[.int .i64 c,.int .i64 p] w fun e w'=>e=.panicked (flP c p)∧w'=w:=by
 go_enter Tryz.func80,Tryz.ntmps80;go_wp2_with fail;exact⟨rfl,rfl,rfl⟩
theorem cI (R d:Nat)(s:PS)(w:World)(h:Rdr R d s w):Calls Tryz.prog 99 #[.pointer (some ⟨R,0,none⟩)] w fun e w'=>e=.returned s.hd.v∧Below w.heap.size w w':=by
 obtain⟨T,o,c,C⟩:=h.rc;have hp:=C.good.pos;have r0:w.cell? ⟨R,0,none⟩=some (.slice (some ⟨T,o,none⟩) s.ts.length c):=C.blk.cell 0;have lR:=C.blk.lt;have lT:T<w.heap.size:=Nat.lt_trans C.tr C.blk.lt;have c0:=C.c0;have c1:=C.c1;have c2:=C.c2;have c3:=C.c3;have c4:=C.c4;have ht:s.hd.v=.agg #[.int .u8 s.hd.kd,.int .i64 s.hd.ps,.string ⟨s.hd.tx.toArray⟩,.int .i32 s.hd.nn,.int .u64 s.hd.ff]:=rfl;generalize s.ts.length=n at *;have hn:¬n=0:=by omega
 clear C h;go_enter Tryz.func99,Tryz.ntmps99;go_wp2_with fail;exact bodyPost_ret (v:=s.hd.v) (by rw[ht];simp[results,Tryz.results99,go_sem]) rfl ⟨rfl,(Below.refl _ _).alloc (aD _) _⟩
theorem dG (R d:Nat)(s:PS)(w:World)(h:Rdr R d s w)(hk:s.hd.kd≠0) :
  Calls Tryz.prog 100 #[.pointer (some ⟨R,0,none⟩)] w fun e w'=>e=.returned s.hd.v∧Rdr R d s.tk w'∧Fx (On R) w.heap.size w w':=by
 obtain⟨T,o,c,C⟩:=h.rc;have hg:=C.good.tail hk;have hl:=dY C.good;have hp:0<s.tk.ts.length:=hg.pos;have r0:w.cell? ⟨R,0,none⟩=some (.slice (some ⟨T,o,none⟩) s.ts.length c):=C.blk.cell 0;have f0:w.frozen? ⟨R,0,none⟩=false:=C.blk.frozen 0;have lR:=C.blk.lt;have nT:=C.tr;have lT:T<w.heap.size:=Nat.lt_trans C.tr C.blk.lt;have lc:=C.lc;have cm:=C.cm;have c0:=C.c0;have c1:=C.c1;have c2:=C.c2;have c3:=C.c3;have c4:=C.c4;have ht:s.hd.v=.agg #[.int .u8 s.hd.kd,.int .i64 s.hd.ps,.string ⟨s.hd.tx.toArray⟩,.int .i32 s.hd.nn,.int .u64 s.hd.ff]:=rfl;have CC:=Hj C;have HL:=Hj hl;have HP:Hid (0<s.tk.ts.length):=hp;unfold maxLen at cm;generalize hN:s.ts.length=n at *;have HN:=Hj hN;clear hN;have hn:¬n=0:=by omega
 have hn1:1≤n:=by omega
 have hc:¬c=1:=by omega
 clear C h hp hl hg;go_enter Tryz.func100,Tryz.ntmps100;go_wp2_with fail;refine bodyPost_ret (v:=s.hd.v) (by rw[ht];simp[results,Tryz.results100,go_sem]) rfl ⟨rfl,?_,?_⟩
 ·have b:=CC.out.blk.set_ 0 (.slice (some ⟨T,o+5,none⟩) (n-1) (c-1))
  rw[←HN.out]at b;refine CC.out.tk hk (by rw[←HN.out];exact(b.alloc _).alloc _) ?_;rw[Below.heap_alloc _ _ _ (by rw[World.size_alloc,World.size_setCell];omega),Below.heap_alloc _ _ _ (by rw[World.size_setCell];omega),Below.heap_setCell _ _ _ _ (by simp;omega)]
 ·exact lL (lL (bJ (X:=On R) (Fx.refl _ _ _) (p:=⟨R,0,none⟩) (.inl rfl) _) _) _
theorem aCB (t:Tk)(w:World):(Instr.field 133 t.v 0).run Tryz.prog w=.ok (.int .u8 t.kd) w:=by kernel_rfl
theorem oX (t:Tk)(w:World):(Instr.field 133 t.v 1).run Tryz.prog w=.ok (.int .i64 t.ps) w:=by kernel_rfl
theorem mT (t:Tk)(w:World):(Instr.field 133 t.v 2).run Tryz.prog w=.ok (.string ⟨t.tx.toArray⟩) w:=by kernel_rfl
theorem aCA (t:Tk)(w:World):(Instr.field 133 t.v 3).run Tryz.prog w=.ok (.int .i32 t.nn) w:=by kernel_rfl
theorem aLl (t:Tk)(w:World):(Instr.field 133 t.v 4).run Tryz.prog w=.ok (.int .u64 t.ff) w:=by kernel_rfl
theorem dZ (R d:Nat)(s:PS)(x:List UInt8)(w:World)(h:Rdr R d s w) :
  Calls Tryz.prog 101 #[.pointer (some ⟨R,0,none⟩),.string ⟨x.toArray⟩] w fun e w'=>e=.returned (.bool (s.hd.tx == x))∧Below w.heap.size w w':=by
 have ft:=fun w=>mT s.hd w;go_enter Tryz.func101,Tryz.ntmps101;go_wp2_with fail;refine(cI R d s w h).mono ?_;rintro e w1 ⟨rfl,hb⟩;go_wp2_with fail;go_ret;exact⟨rfl,hb⟩
theorem fG (R d:Nat)(s:PS)(w:World)(h:Rdr R d s w) :
  Calls Tryz.prog 98 #[.pointer (some ⟨R,0,none⟩)] w fun e w'=>e=.panicked (flP 110 s.hd.ps)∧Below w.heap.size w w':=by
 have ft:=fun w=>oX s.hd w;go_enter Tryz.func98,Tryz.ntmps98;go_wp2_with fail;refine(cI R d s w h).mono ?_;rintro e w1 ⟨rfl,hb⟩;go_wp2_with fail;refine(mA _ _ _).mono ?_;rintro e w2 ⟨rfl,rfl⟩;go_wp2_with fail;exact⟨rfl,rfl,hb⟩
theorem cS {a b:List UInt8}(h:a=b):(a == b)=true:=by simp[h]
theorem cU {a b:List UInt8}(h:¬a=b):(a == b)=false:=by simp[h]
def acS (s:PS)(x:List UInt8):PS:=if s.hd.tx=x then s.tk else s
theorem dL (R d:Nat)(s:PS)(x:List UInt8)(hx:x≠[])(w:World)(h:Rdr R d s w) :
  Calls Tryz.prog 97 #[.pointer (some ⟨R,0,none⟩),.string ⟨x.toArray⟩] w fun e w'=>e=.returned (.bool (s.hd.tx == x))∧Rdr R d (acS s x) w'∧Fx (On R) w.heap.size w w':=by
 have HS:=Hj (dZ R d s x w h)
 by_cases c:s.hd.tx=x
 ·have e1:=cS c
  have e2:acS s x=s.tk:=if_pos c;have hk:s.hd.kd≠0:=h.good.kd (by rw[←PS.hd,c];exact hx);rw[e1]at HS ⊢;rw[e2];clear e1 e2;go_enter Tryz.func97,Tryz.ntmps97;go_wp2_with fail;refine HS.out.mono ?_;rintro e w1 ⟨rfl,hb⟩;have h1:=h.below hb h.lt;clear HS h;go_wp2_with fail;refine(dG R d s w1 h1 hk).mono ?_;rintro e w2 ⟨rfl,hr,hf⟩;have F:=aJ (Fx.of hb) hf;clear hf hb h1;go_wp2_with fail;go_ret;exact⟨rfl,hr,F⟩
 ·have e1:=cU c
  have e2:acS s x=s:=if_neg c;rw[e1]at HS ⊢;rw[e2];clear e1 e2;go_enter Tryz.func97,Tryz.ntmps97;go_wp2_with fail;refine HS.out.mono ?_;rintro e w1 ⟨rfl,hb⟩;have h1:=h.below hb h.lt;clear HS h;go_wp2_with fail;go_ret;exact⟨rfl,h1,Fx.of hb⟩
theorem bU (R d:Nat)(s:PS)(x:List UInt8)(hx:x≠[])(w:World)(h:Rdr R d s w) :
  Calls Tryz.prog 81 #[.pointer (some ⟨R,0,none⟩),.string ⟨x.toArray⟩] w (PO R d w (cF x s) V0):=by
 have HS:=Hj (dL R d s x hx w h)
 by_cases c:s.hd.tx=x
 ·have e1:=cS c
  have e2:acS s x=s.tk:=if_pos c;have e3:cF x s=.ok () s.tk:=if_pos c;rw[e1,e2]at HS;rw[e3];clear e1 e2 e3 h;go_enter Tryz.func81,Tryz.ntmps81;go_wp2_with fail;refine HS.out.mono ?_;rintro e w1 ⟨rfl,hr,hf⟩;clear HS;go_wp2_with fail
  go_end0
  exact⟨_,rfl,rfl,hr,hf⟩
 ·have e1:=cU c
  have e2:acS s x=s:=if_neg c;have e3:cF x s=.no 110 s.hd.ps:=if_neg c;rw[e1,e2]at HS;rw[e3];clear e1 e2 e3 h;go_enter Tryz.func81,Tryz.ntmps81;go_wp2_with fail;refine HS.out.mono ?_;rintro e w1 ⟨rfl,hr,hf⟩;clear HS;go_wp2_with fail;refine(fG R d s w1 hr).mono ?_;rintro e w2 ⟨rfl,hb⟩;have F:=aZ hf hb;clear hf hb hr;go_wp2_with fail;exact⟨rfl,rfl,F⟩
theorem eZ (R d:Nat)(s:PS)(k:Int)(hk:k≠0)(w:World)(h:Rdr R d s w) :
  Calls Tryz.prog 82 #[.pointer (some ⟨R,0,none⟩),.int .u8 k] w (PO R d w (eR k s) fun t v _=>v=t.v):=by
 have ft:=fun w=>aCB s.hd w
 by_cases c:s.hd.kd=k
 ·have e3:eR k s=.ok s.hd s.tk:=if_pos c
  have hk':s.hd.kd≠0:=by rw[c];exact hk
  rw[e3];clear e3 hk;subst c;have B:Hid (Blk (w.alloc (.cells #[.int .u8 0,.int .i64 0,.string ⟨#[]⟩,.int .i32 0,.int .u64 0] 133)) w.heap.size 133 #[.int .u8 0,.int .i64 0,.string ⟨#[]⟩,.int .i32 0,.int .u64 0]):=Blk.new _ _ _;have HR:=Hj h.lt;go_enter Tryz.func82,Tryz.ntmps82;go_wp2_with fail;refine(cI R d s _ (h.alloc _)).mono ?_;rintro e w1 ⟨rfl,hb⟩;have h1:=(h.alloc _).below hb (h.alloc _).lt;have F:=aZ (X:=On R) (lL (Fx.refl _ _ w) _) hb;have b1:=B.out.below hb B.out.lt;have H1:=Hj h1;clear h hb B;go_wp2_with fail;refine(dG R d s _ H1.out hk').mono ?_;rintro e w2 ⟨rfl,h2,hf⟩;have hRs:R<w.heap.size:=HR.out;have B2:=Hj (hf.blk b1 b1.lt (fun x=>by unfold On at x;omega));have F2:=Hj (aJ F hf);have H2:=Hj h2;clear F hf h1 h2 b1
  go_wp2_with (refine aLq s.hd w.heap.size _ B2.out rfl rfl _ _ rfl rfl rfl ?_)
  exact bodyPost_ret (aLw rfl _ _ w.heap.size s.hd rfl (B2.out.rowS _)) rfl ⟨_,rfl,rfl,H2.out.row hRs _,bI F2.out (.inr (aD _)) _⟩
 ·have e3:eR k s=.no 110 s.hd.ps:=if_neg c
  rw[e3];clear e3;go_enter Tryz.func82,Tryz.ntmps82;go_wp2_with fail;refine(cI R d s _ (h.alloc _)).mono ?_;rintro e w1 ⟨rfl,hb⟩;have h1:=(h.alloc _).below hb (h.alloc _).lt;have F:=aZ (X:=On R) (lL (Fx.refl _ _ w) _) hb;clear h hb;go_wp2_with fail;refine(fG R d s _ h1).mono ?_;rintro e w2 ⟨rfl,hf⟩;have F2:=aZ F hf;clear F hf h1;go_wp2_with fail;exact⟨rfl,rfl,F2⟩
theorem gH (R j n:Nat)(m p:Int)(w:World)(hc:w.cell? ⟨R,j,none⟩=some (.int .i64 (n:Int)))(hz:w.frozen? ⟨R,j,none⟩=false)(hn:(n:Int)<1000000) :
  Calls Tryz.prog 102 #[.pointer (some ⟨R,j,none⟩),.int .i64 m,.int .i64 p] w fun e w'=>if(n:Int)=m then e=.panicked (flP 112 p)∧w'=w else e=.returned (.tuple #[])∧w'=w.setCell ⟨R,j,none⟩ (.int .i64 ((n:Int)+1)):=by
 by_cases c:(n:Int)=m
 ·simp only[if_pos c]
  go_enter Tryz.func102,Tryz.ntmps102;go_wp2_with fail;refine(mA _ _ _).mono ?_;rintro e w2 ⟨rfl,rfl⟩;go_wp2_with fail;exact⟨rfl,rfl,rfl⟩
 ·simp only[if_neg c]
  have ov:IntKind.i64.wrap ((n:Int)+1)=(n:Int)+1:=by rw[IntKind.wrap_i64];omega
  clear hn;go_enter Tryz.func102,Tryz.ntmps102;go_wp2_with fail;exact bodyPost_end (results_none rfl _ _ _) rfl ⟨rfl,rfl⟩
theorem dH (R d:Nat)(s:PS)(e:EH)(w:World)(h:Rdr R d s w)(e0:Ex)(he:e0.h.ps=e.ps) :
  Calls Tryz.prog 228 #[.pointer (some ⟨R,0,none⟩),e.v] w (PO R d w (dU e0 s) fun _ v _=>v=e.v):=by
 obtain⟨T,o,c,C⟩:=h.rc;have CC:=Hj C;have r3:w.cell? ⟨R,3,none⟩=some (.int .i64 (s.nx:Int)):=C.blk.cell 3;have f3:w.frozen? ⟨R,3,none⟩=false:=C.blk.frozen 3;have lR:=C.blk.lt;have nx:=C.nx;clear C h;show Calls Tryz.prog 228 #[.pointer (some ⟨R,0,none⟩),.agg #[.int .u8 e.op,.int .i64 e.ps,.bool e.bo,.int .i32 e.it,.int .u64 e.fl,.string ⟨e.nm.toArray⟩,.slice e.s.ao e.s.n e.s.c]] w _;go_enter Tryz.func228,Tryz.ntmps228;have OB:Hid (Blk (bx w (xO e)) w.heap.size 42 e.va):=zQ w e;have KC:=Hj (gH R 3 s.nx 2000 e.ps);go_upto_region 1 with fail;rw[kY];have z1:(bx w (xO e)).heap.size=w.heap.size+1:=cJ _ _;have F0:Below w.heap.size w (bx w (xO e)):=bS (Below.refl _ _) (aD _) _;generalize bx w (xO e)=wx at *;have OB2:=Hj (OB.out.alloc zX);have NB:Hid (Blk (wx.alloc zX) (w.heap.size+1) 42 aP.va):=by rw[←z1];exact Blk.new _ _ _
 have F1:=aH (aI F0 zX);have e1:(wx.alloc zX).cell? ⟨w.heap.size,1,none⟩=some (.int .i64 e.ps):=OB2.out.cell 1;clear F0 OB z1;change (Code.region 1 _ _).wp _ _ _ (wx.alloc zX);generalize wx.alloc zX=wy at *
 go_still_tail 5,(by kernel_rfl)
 have HC:Hid (RdC R d T o c s wy.drew):=CC.out.below F1 lR;have F2:=Hj F1;have OB3:Hid (Blk wy.drew w.heap.size 42 e.va):=OB2.out;have NB3:Hid (Blk wy.drew (w.heap.size+1) 42 aP.va):=NB.out;clear OB2 NB e1 F1;change wpList _ _ _ _ _ wy.drew;generalize wy.drew=wz at *;have KK:=KC.out wz (HC.out.blk.cell 3) (HC.out.blk.frozen 3) (by omega)
 by_cases c:s.nx=2000
 ·have e3:dU e0 s=.no 112 e.ps:=by rw[←he];exact if_pos c
  simp only[if_pos (show(s.nx:Int)=2000 by omega)]at KK;have KK2:=Hj KK;have E3:=Hj e3;clear KC KK e3 he;go_wp2_with fail;refine KK2.out.mono ?_;rintro r w2 ⟨rfl,rfl⟩;clear KK2;go_wp2_with fail;refine⟨rfl,?_⟩;rw[E3.out];exact⟨rfl,Fx.of F2.out⟩
 ·have e3:dU e0 s=.ok e0 ⟨s.ts,s.ns,s.nx+1⟩:=if_neg c
  simp only[if_neg (show ¬(s.nx:Int)=2000 by omega)]at KK;have KK2:=Hj KK;have E3:=Hj e3;clear KC KK e3 he;have HL:=Hj lR;have HN:Hid (s.nx+1≤2000):=by show s.nx+1≤2000;omega
  clear lR nx;go_wp2_with fail;refine KK2.out.mono ?_;rintro r w2 ⟨rfl,rfl⟩;clear KK2;have b1:=HC.out.blk.set_ 3 (.int .i64 ((s.nx:Int)+1));have hr:Hid (Rdr R d ⟨s.ts,s.ns,s.nx+1⟩ (wz.setCell ⟨R,3,none⟩ (.int .i64 ((s.nx:Int)+1)))):=HC.out.nums b1 (Below.heap_setCell _ _ _ _ (Nat.ne_of_lt HC.out.tr)) HC.out.ns HN.out HC.out.dp;have OB4:=Hj (OB3.out.far (p:=⟨R,3,none⟩) (Nat.ne_of_gt HL.out) (.int .i64 ((s.nx:Int)+1)));have NB4:=Hj (NB3.out.far (p:=⟨R,3,none⟩) (Nat.ne_of_gt (Nat.lt_succ_of_lt HL.out)) (.int .i64 ((s.nx:Int)+1)));have F3:=Hj (bJ (X:=On R) (Fx.of F2.out) (p:=⟨R,3,none⟩) (.inl rfl) (.int .i64 ((s.nx:Int)+1)));clear b1 OB3 NB3 HC F2;generalize wz.setCell _ _=wu at *
  go_wp2_with (first
   | refine jV e w.heap.size OB4.out rfl _ rfl rfl ?_
   | refine eL e (w.heap.size+1) _ NB4.out rfl rfl _ _ rfl rfl rfl ?_)
  refine bodyPost_ret (fQ rfl _ _ (w.heap.size+1) e rfl (NB4.out.rowS _)) rfl ?_;rw[E3.out];exact⟨_,rfl,rfl,hr.out.row (Nat.lt_succ_of_lt HL.out) _,bI F3.out (.inr (Nat.le_succ _)) _⟩
theorem aAl (x:List UInt8)(w:World):Calls Tryz.prog 179 #[.string ⟨x.toArray⟩] w fun e w'=>e=.returned (.int .u8 (sgO 0 x))∧w'=w:=by
 go_enter Tryz.func179,Tryz.ntmps179;go_wp2_with fail
 all_goals
  go_ret;refine⟨?_,rfl⟩;simp only[beq_iff_eq,beq_eq_false_iff_ne,ne_eq]at *
  first
   | (subst_vars;rfl)
   | (unfold sgO;simp only[*];rfl)
theorem yE (x:List UInt8)(w:World):Calls Tryz.prog 207 #[.string ⟨x.toArray⟩] w fun e w'=>e=.returned (.int .u8 (sgO 1 x))∧w'=w:=by
 go_enter Tryz.func207,Tryz.ntmps207;go_wp2_with fail
 all_goals
  go_ret;refine⟨?_,rfl⟩;simp only[beq_iff_eq,beq_eq_false_iff_ne,ne_eq]at *
  first
   | (subst_vars;rfl)
   | (unfold sgO;simp only[*];rfl)
theorem yD (x:List UInt8)(w:World):Calls Tryz.prog 230 #[.string ⟨x.toArray⟩] w fun e w'=>e=.returned (.int .u8 (sgO 2 x))∧w'=w:=by
 go_enter Tryz.func230,Tryz.ntmps230;go_wp2_with fail
 all_goals
  go_ret;refine⟨?_,rfl⟩;simp only[beq_iff_eq,beq_eq_false_iff_ne,ne_eq]at *
  first
   | (subst_vars;rfl)
   | (unfold sgO;simp only[*];rfl)
theorem yB (x:List UInt8)(w:World):Calls Tryz.prog 245 #[.string ⟨x.toArray⟩] w fun e w'=>e=.returned (.int .u8 (sgO 3 x))∧w'=w:=by
 go_enter Tryz.func245,Tryz.ntmps245;go_wp2_with fail
 all_goals
  go_ret;refine⟨?_,rfl⟩;simp only[beq_iff_eq,beq_eq_false_iff_ne,ne_eq]at *
  first
   | (subst_vars;rfl)
   | (unfold sgO;simp only[*];rfl)
theorem vZ (x:List UInt8)(w:World):Calls Tryz.prog 257 #[.string ⟨x.toArray⟩] w fun e w'=>e=.returned (.int .u8 (sgO 4 x))∧w'=w:=by
 go_enter Tryz.func257,Tryz.ntmps257;go_wp2_with fail
 all_goals
  go_ret;refine⟨?_,rfl⟩;simp only[beq_iff_eq,beq_eq_false_iff_ne,ne_eq]at *
  first
   | (subst_vars;rfl)
   | (unfold sgO;simp only[*];rfl)
theorem uA (x:List UInt8)(w:World):Calls Tryz.prog 267 #[.string ⟨x.toArray⟩] w fun e w'=>e=.returned (.int .u8 (unT x))∧w'=w:=by
 go_enter Tryz.func267,Tryz.ntmps267;go_wp2_with fail
 all_goals
  go_ret;refine⟨?_,rfl⟩;simp only[beq_iff_eq,beq_eq_false_iff_ne,ne_eq]at *
  first
   | (subst_vars;rfl)
   | (unfold unT;simp only[*];rfl)
theorem qC (t:Tk)(w:World):Calls Tryz.prog 277 #[t.v] w fun e w'=>e=.returned (.int .u8 (atT t))∧Below w.heap.size w w':=by
 show Calls Tryz.prog 277 #[.agg #[.int .u8 t.kd,.int .i64 t.ps,.string ⟨t.tx.toArray⟩,.int .i32 t.nn,.int .u64 t.ff]] w _;go_enter Tryz.func277,Tryz.ntmps277;go_wp2_with fail
 all_goals
  go_ret;refine⟨?_,(Below.refl _ _).alloc (aD _) _⟩;simp only[beq_iff_eq,beq_eq_false_iff_ne,ne_eq]at *;unfold atT;simp only[*]
  first|contradiction|rfl|(simp;done)
def aME (D:Nat→Prop)(w:World):Nat→Prop:=fun k=>D k∧k≠w.heap.size∧k≠w.heap.size+1
theorem tN (R d n l:Nat)(p:PS→Rs Ex)(hp:dP R d n p)(hn:jH n)(s:PS)(e1 e:Ex)(w:World)(D:Nat→Prop)(hL:¬D R)(hLw:∀k,w.heap.size≤k→D k)(h:Rdr R d s w)(hk:s.hd.kd≠0)(hx:XO D e1 w)(he:e1.eqv e)
  (ho:0≤sgO l s.hd.tx∧sgO l s.hd.tx≤255) :
  Calls Tryz.prog 205 #[.pointer (some ⟨R,0,none⟩),.int .u8 (sgO l s.hd.tx),e1.h.v,.func (.func n) #[.pointer (some ⟨R,0,none⟩)] #[]] w (PO R d w (pM l p e s) (VD D)):=by
 have ft:=fun w=>oX s.hd w;have hcf:=hn #[.pointer (some ⟨R,0,none⟩)];clear hn;have hd:=h.good.hd;have P0:0≤s.hd.ps:=hd.ps0;have P1:s.hd.ps≤16384:=hd.ps1;have LR:=h.lt;have BL:Below w.heap.size w ((bx w (xO e1.h)).alloc zX):=aI (bS (Below.refl _ _) (aD _) _) _;have HR:=Hj (h.below BL h.lt);have OB:Hid (Blk ((bx w (xO e1.h)).alloc zX) w.heap.size 42 e1.h.va):=(zQ w e1.h).alloc zX;have NB:Hid (Blk ((bx w (xO e1.h)).alloc zX) (w.heap.size+1) 42 aP.va):=by have:=Blk.new (bx w (xO e1.h)) 42 aP.va;rw[cJ]at this;exact this
 have D1:¬aME D w R:=fun x=>hL x.1;have HX:=Hj ((hx.imp (D':=aME D w) (fun k hk x=>⟨x,by omega,by omega⟩)).bel BL);have HSZ:Hid (w.heap.size+2≤((bx w (xO e1.h)).alloc zX).heap.size):=by show w.heap.size+2≤_;rw[World.size_alloc,cJ];exact aD _
 have HD:=Hj D1;clear D1;have HF:Hid (Fx (On R) w.heap.size w ((bx w (xO e1.h)).alloc zX)):=Fx.of BL;have HG:=Hj (And.intro h.good hk);have HO:=Hj (And.intro ho (And.intro P0 P1));have HLL:=Hj (And.intro hL (And.intro hLw LR));have HS:=Hj hd;clear BL h hx hd ho P0 P1 LR hk hL hLw;show Calls Tryz.prog 205 #[.pointer (some ⟨R,0,none⟩),.int .u8 (sgO l s.hd.tx),.agg #[.int .u8 e1.h.op,.int .i64 e1.h.ps,.bool e1.h.bo,.int .i32 e1.h.it,.int .u64 e1.h.fl,.string ⟨e1.h.nm.toArray⟩,.slice e1.h.s.ao e1.h.s.n e1.h.s.c],.func (.func n) #[.pointer (some ⟨R,0,none⟩)] #[]] w _;generalize hop:sgO l s.hd.tx=op at *;have HOP:=Hj hop;clear hop;go_enter Tryz.func205,Tryz.ntmps205;go_upto_region 1 with fail;rw[kY];change (Code.region 1 _ _).wp _ _ _ ((bx w (xO e1.h)).alloc zX);generalize (bx w (xO e1.h)).alloc zX=wy at *;go_wp2_with fail;refine(dG R d s wy HR.out HG.out.2).mono ?_;rintro r w1 ⟨rfl,h1,f1⟩;have HR1:=Hj h1;have OB1:=Hj (f1.blk OB.out OB.out.lt (aO HLL.out.2.2));have NB1:=Hj (f1.blk NB.out NB.out.lt (aO (Nat.lt_succ_of_lt HLL.out.2.2)));have HX1:=Hj (HX.out.fx f1 (aQ HD.out));have HS1:=Hj (aF HSZ.out f1.size);have HF1:=Hj (aJ HF.out f1);clear HR OB NB HX HF f1 h1 HSZ
 go_wp2_with fail;refine(hp s.tk w1 HR1.out).mono ?_;intro r w2 hpo
 cases hres:p s.tk with
 | no c q=>
  rw[hres]at hpo;obtain⟨rfl,f2⟩:=hpo;have HF2:=Hj (aJ HF1.out f2);have E:Hid (pM l p e s=.no c q):=by show _=_;unfold pM;rw[hres];rfl
  clear f2 hres;go_wp2_with fail;refine⟨rfl,?_⟩;rw[E.out];exact⟨rfl,HF2.out⟩
 | ok b s2=>
  rw[hres]at hpo;obtain⟨v,rfl,⟨b',rfl,xb,eb⟩,h2,f2⟩:=hpo;have E:Hid (pM l p e s=dU (opX op s.hd.ps [e,b]) s2):=by show _=_;unfold pM;rw[hres,HOP.out];rfl
  have hs1:=HS1.out;have hs2:=f2.size;have BLb:=bS (Below.refl w2.heap.size w2) (aD _) (xO b'.h);have HXb:=Hj ((xb.imp (D':=aME D w) (fun k _ (x:w1.heap.size≤k)=>⟨HLL.out.2.1 k (by omega),by omega,by omega⟩)).bel BLb);have HS3:Hid (w.heap.size+2≤(bx w2 (xO b'.h)).heap.size):=by show w.heap.size+2≤_;rw[cJ];omega
  have BB:Hid (Blk (bx w2 (xO b'.h)) w2.heap.size 42 b'.h.va):=zQ w2 b'.h;have HR2:=Hj (h2.below BLb h2.lt);have o1:=f2.blk OB1.out OB1.out.lt (aO HLL.out.2.2);have n1:=f2.blk NB1.out NB1.out.lt (aO (Nat.lt_succ_of_lt HLL.out.2.2));have OB2:=Hj (o1.below BLb o1.lt);have NB2:=Hj (n1.below BLb n1.lt);have HX2:=Hj ((HX1.out.fx f2 (aQ HD.out)).bel BLb);have HF2:=Hj (aZ (aJ HF1.out f2) BLb);have EB:=Hj eb;clear hres HR1 OB1 NB1 HX1 HF1 o1 n1 xb eb h2 f2 BLb hs1 hs2 HS1;unfold EH.v;go_upto_region 3 with fail;rw[kY];generalize w2.heap.size=g at *;generalize bx w2 (xO b'.h)=w3 at *
  go_wp2_with (first
   | refine jV e1.h w.heap.size OB2.out rfl _ rfl rfl ?_
   | refine jV b'.h g BB.out rfl _ rfl rfl ?_)
  have BL4:=aY w3 (.cells (e1.h.vs++b'.h.vs).toArray 42);have HX4:=Hj (aLj (op:=op) (ps:=s.hd.ps) HX2.out HXb.out ⟨HLL.out.2.1 _ HF2.out.size,Nat.ne_of_gt (aE (by omega) HS3.out),Nat.ne_of_gt (aE (by omega) HS3.out)⟩ HO.out.1.1 HO.out.1.2 HO.out.2.1 HO.out.2.2 (t:=42) rfl);have HR4:=Hj (HR2.out.below BL4 HR2.out.lt);have NB4:=Hj (NB2.out.below BL4 NB2.out.lt);have HF4:=Hj (aZ HF2.out BL4);clear BL4 HX2 HXb HR2 OB2 NB2 HF2 BB;change Calls _ _ _ (w3.alloc (.cells (e1.h.vs++b'.h.vs).toArray 42)) _;generalize w3.alloc (.cells (e1.h.vs++b'.h.vs).toArray 42)=w4 at *;generalize w3.heap.size=k at *;refine(dH R d s2 ⟨op,s.hd.ps,false,0,0,[],⟨some ⟨k,0,none⟩,2,2⟩⟩ w4 HR4.out (opX op s.hd.ps [e,b]) rfl).mono ?_;intro r w5 hpo
  cases hres:dU (opX op s.hd.ps [e,b]) s2 with
  | no c q=>
   rw[hres]at hpo;obtain⟨rfl,f5⟩:=hpo;have HF5:=Hj (aJ HF4.out f5);have E5:=Hj (E.out.trans hres);clear f5 hres;go_wp2_with fail;refine⟨rfl,?_⟩;rw[E5.out];exact⟨rfl,HF5.out⟩
  | ok a s5=>
   rw[hres]at hpo;obtain⟨v,rfl,rfl,h5,f5⟩:=hpo;have E5:=Hj (E.out.trans hres);have ha:=jO hres;subst ha;have HF5:=Hj (aJ HF4.out f5);have HR5:=Hj h5;have NB5:=Hj (f5.blk NB4.out NB4.out.lt (aO (Nat.lt_succ_of_lt HLL.out.2.2)));have HX5:=Hj (HX4.out.fx f5 (aQ HD.out));clear f5 hres h5 HX4 HR4 NB4 HF4 E
   go_wp2_with (refine eL ⟨op,s.hd.ps,false,0,0,[],⟨some ⟨k,0,none⟩,2,2⟩⟩ (w.heap.size+1) _ NB5.out rfl rfl _ _ rfl rfl rfl ?_)
   refine bodyPost_ret (fQ rfl _ _ (w.heap.size+1) ⟨op,s.hd.ps,false,0,0,[],⟨some ⟨k,0,none⟩,2,2⟩⟩ rfl (NB5.out.rowS _)) rfl ?_;rw[E5.out];exact⟨_,rfl,⟨_,rfl,(HX5.out.row (fun x=>x.2.2 rfl) _).imp (fun k _ x=>x.1),aJb he EB.out⟩,HR5.out.row (Nat.lt_succ_of_lt HLL.out.2.2) _,bI HF5.out (.inr (Nat.le_succ _)) _⟩
theorem mC (R d n m l:Nat)(p:PS→Rs Ex)(hp:dP R d n p)(hn:jH n)(hm:∀(x:List UInt8) (w:World),Calls Tryz.prog m #[.string ⟨x.toArray⟩] w fun e w'=>e=.returned (.int .u8 (sgO l x))∧w'=w)(hrm:jH m)(hrd:Rdx p)
  (ho:∀x,0≤sgO l x∧sgO l x≤255) (s:PS) (w:World) (h:Rdr R d s w) :
  Calls Tryz.prog 177 #[.pointer (some ⟨R,0,none⟩),.func (.func n) #[.pointer (some ⟨R,0,none⟩)] #[],.func (.func m) #[] #[]] w (PO R d w ((p s).bind fun e s'=>lP l p (s'.ts.length+1) e s') (VX w.heap.size)):=by
 have ft:=fun t w=>mT t w;have hcn:=hn #[.pointer (some ⟨R,0,none⟩)];have hcm:=fun(x:List UInt8)=>hrm #[.string ⟨x.toArray⟩];have HPn:=Hj hn;clear hn hrm;have BL:=aY w zX;have HR:=Hj (h.alloc zX);have NB:Hid (Blk (w.alloc zX) w.heap.size 42 aP.va):=Blk.new _ _ _;have HLT:=Hj h.lt;have HF:Hid (Fx (On R) w.heap.size w (w.alloc zX)):=Fx.of BL;have HSZ:Hid (w.heap.size+1≤(w.alloc zX).heap.size):=by show w.heap.size+1≤_;rw[World.size_alloc];exact aD _
 have HGD:=Hj h.good;clear BL h;generalize hZ:(p s).bind (fun e s'=>lP l p (s'.ts.length+1) e s')=Z;have HZ:=Hj hZ;clear hZ;go_enter Tryz.func177,Tryz.ntmps177;go_upto_region 1 with fail;change (Code.region 1 _ _).wp _ _ _ (w.alloc zX);generalize w.alloc zX=wx at *;go_wp2_with fail;refine(hp s wx HR.out).mono ?_;intro r w1 hpo
 cases hres:p s with
 | no c q=>
  rw[hres]at hpo;obtain⟨rfl,f1⟩:=hpo;have HF1:=Hj (aJ HF.out f1);have E:Hid (Z=.no c q):=by show Z=_;rw[←HZ.out,hres];rfl
  clear f1 hres;go_wp2_with fail;refine⟨rfl,?_⟩;rw[E.out];exact⟨rfl,HF1.out⟩
 | ok e0 s0=>
  rw[hres]at hpo;obtain⟨v,rfl,⟨b,rfl,xb,eb⟩,h1,f1⟩:=hpo;have hlf:=(hrd s HGD.out) e0 s0 hres;have E:Hid (lP l p (s0.ts.length+1) e0 s0=Z):=by show _=Z;rw[←HZ.out,hres];rfl
  have BLb:=bS (Below.refl w1.heap.size w1) (aD _) (xO b.h);have hs1:=f1.size;have hs0:=HSZ.out;have HX1:=Hj ((xb.imp (D':=fun k=>w.heap.size<k∧k≠w1.heap.size) (fun k hk (x:wx.heap.size≤k)=>⟨by omega,by omega⟩)).bel BLb);have HG1:Hid (w.heap.size<w1.heap.size):=by show w.heap.size<w1.heap.size;omega
  have BB:Hid (Blk (bx w1 (xO b.h)) w1.heap.size 42 b.h.va):=zQ w1 b.h;have HR1:=Hj (h1.below BLb h1.lt);have n1:=f1.blk NB.out NB.out.lt (aO HLT.out);have NB1:=Hj (n1.below BLb n1.lt);have HF1:=Hj (aZ (aJ HF.out f1) BLb);have EB:=Hj eb;have HSZ1:Hid (w1.heap.size<(bx w1 (xO b.h)).heap.size):=by show w1.heap.size<_;rw[cJ];exact Nat.lt_succ_self _
  clear hres xb h1 f1 BLb hs1 hs0 HSZ HR NB HF eb n1 hlf HGD HZ;unfold EH.v;go_wp2_with fail;rw[kY];generalize w1.heap.size=g at *;generalize bx w1 (xO b.h)=w2 at *
  go_loopg [8] s0.ts.length (fun gk _ wr=>∃(e e':Ex) (s:PS) (f:Nat),Hid (gk=s.ts.length)∧Hid (Blk wr g 42 e'.h.va)∧Hid (XO (fun k=>w.heap.size<k∧k≠g) e' wr)∧Hid (e'.eqv e)∧Hid (Rdr R d s wr)∧Hid (Fx (On R) w.heap.size w wr)∧Hid (Blk wr w.heap.size 42 aP.va)∧Hid (s.ts.length<f)∧Hid (lP l p f e s=Z))
  case atStart=>exact⟨e0,b,s0,s0.ts.length+1,rfl,BB,HX1,EB,HR1,HF1,NB1,Nat.lt_succ_self _,E⟩
  case round=>
   clear BB HX1 EB HR1 HF1 NB1 E HSZ1;obtain⟨e,e',s,f,HGK,BB,HX,EB,HR,HF,NB,HFL,HZ⟩:=hrel;obtain⟨f,rfl⟩:∃f',f=f'+1:=⟨f - 1,by have:=HFL.out;omega⟩;have NX:=Hj (cI R d s wr HR.out)
   by_cases c:sgO l s.hd.tx=0
   ·have E:Hid (Z=.ok e s):=by show Z=_;rw[←HZ.out,lP,if_pos c]
    clear HZ;go_wp2_with fail;refine NX.out.mono ?_;rintro r w3 ⟨rfl,hb⟩;have BB2:=Hj (BB.out.below hb BB.out.lt);have NB2:=Hj (NB.out.below hb NB.out.lt);have HX2:=Hj (HX.out.bel hb);have HR2:=Hj (HR.out.below hb HR.out.lt);have HF2:=Hj (aZ HF.out hb);clear BB NB HX HR HF NX hb;go_wp2_with fail;refine(hm s.hd.tx w3).mono ?_;rintro r w4 ⟨rfl,rfl⟩;rw[c]
    go_wp2_with (first
     | refine jV e'.h g BB2.out rfl _ rfl rfl ?_
     | refine eL e'.h w.heap.size _ NB2.out rfl rfl _ _ rfl rfl rfl ?_)
    refine bodyPost_ret (fQ rfl _ _ w.heap.size e'.h rfl (NB2.out.rowS _)) rfl ?_;rw[E.out];exact⟨_,rfl,⟨e',rfl,(HX2.out.row (fun x=>Nat.lt_irrefl _ x.1) _).imp (fun k _ x=>Nat.le_of_lt x.1),EB.out⟩,HR2.out.row HLT.out _,bI HF2.out (.inr (aD _)) _⟩
   ·have E:Hid ((pM l p e s).bind (fun e' s'=>lP l p f e' s')=Z):=by show _=Z;rw[←HZ.out,lP,if_neg c]
    have hk:s.hd.kd≠0:=HR.out.good.kd (aCP c);have HK:=Hj hk;have HLF:=Hj (aDr (e:=e) hrd HR.out.good c);have c2:(sgO l s.hd.tx == 0)=false:=by simp[c]
    have BI:=Hj fun w D hL hLw h hx=>tN R d n l p hp HPn.out s e' e w D hL hLw h hk hx EB.out (ho _);have HM:=Hj (hm s.hd.tx);have HPO:=Hj HR.out.good.pos;clear HZ hk c;generalize sgO l s.hd.tx=op at *;go_wp2_with fail;refine NX.out.mono ?_;rintro r w3 ⟨rfl,hb⟩;have BB2:=Hj (BB.out.below hb BB.out.lt);have NB2:=Hj (NB.out.below hb NB.out.lt);have HX2:=Hj (HX.out.bel hb);have HR2:=Hj (HR.out.below hb HR.out.lt);have HF2:=Hj (aZ HF.out hb);clear BB NB HX HR HF NX hb;go_wp2_with fail;refine(HM.out w3).mono ?_;rintro r w4 ⟨rfl,rfl⟩
    go_wp2_with (refine jV e'.h g BB2.out rfl _ rfl rfl ?_)
    refine(BI.out w4 (fun k=>w.heap.size<k∧k≠g) (fun x=>Nat.lt_asymm x.1 HLT.out) (fun k hk=>⟨aE (Nat.lt_trans HG1.out BB2.out.lt) hk,Nat.ne_of_gt (aE BB2.out.lt hk)⟩) HR2.out HX2.out).mono ?_;intro r w5 hpo
    cases hres:pM l p e s with
    | no c q=>
     rw[hres]at hpo;obtain⟨rfl,f5⟩:=hpo;have HF5:=Hj (aJ HF2.out f5);have E5:Hid (Z=.no c q):=by show Z=_;rw[←E.out,hres];rfl
     clear f5 hres;go_wp2_with fail;refine⟨rfl,?_⟩;rw[E5.out];exact⟨rfl,HF5.out⟩
    | ok e2 s2=>
     rw[hres]at hpo;obtain⟨v,rfl,⟨b2,rfl,xb,eb⟩,h5,f5⟩:=hpo;have E5:Hid (lP l p f e2 s2=Z):=by show _=Z;rw[←E.out,hres];rfl
     have HL5:=Hj (HLF.out _ _ hres);have HF5:=Hj (aJ HF2.out f5);have HRg:Hid (R<g):=Nat.lt_trans HLT.out HG1.out;have BB5:=Hj (f5.blk BB2.out BB2.out.lt (aO HRg.out));have NB5:=Hj (f5.blk NB2.out NB2.out.lt (aO HLT.out));have HX5:=Hj xb;have HR5:=Hj h5;have EB5:=Hj eb;clear f5 hres xb h5 eb BB2 NB2 HF2 HR2 HX2 E HLF
     go_wp2_with (refine eL b2.h g _ BB5.out rfl rfl _ _ rfl rfl rfl ?_)
     go_roundg s2.ts.length
     case measure=>have:=HPO.out;have:=HL5.out.2.1;have:=HGK.out;omega
     case rel=>exact⟨e2,b2,s2,f,rfl,BB5.out.rowS _,HX5.out.row (fun x=>x.2 rfl) _,EB5,HR5.out.row HRg.out _,bI HF5.out (.inr (Nat.le_of_lt HG1.out)) _,NB5.out.off (Nat.ne_of_lt HG1.out) _,(by show s2.ts.length<f;have:=HPO.out;have:=HL5.out.2.1;have:=HFL.out;omega),E5⟩
theorem vS (l:Nat)(x:List UInt8):0≤sgO l x∧sgO l x≤255:=by
 unfold sgO
 (repeat' split)<;>decide
theorem dJ {n:Nat}{fn:Func}{c:Code}(hf:Tryz.prog.funcs[n]? = some fn)(hname:(fn.name == "runtime.NumGoroutine")=false)(hb:fn.body=some c):jH n:=fun args w=>by
 have h1:fn.name ≠ "runtime.NumGoroutine":=by simpa using hname
 simp[callFunc,hf,h1,hb]
theorem oA (u:PS→Rs Ex)(m:Nat)(h:m≠2)(s:PS):lvl u (m+1) s=(lvl u m s).bind fun e s'=>lP (4-m) (lvl u m) (s'.ts.length+1) e s':=by
 rw[lvl];simp only[if_neg h]
theorem aCT:jH 256:=dJ (by rfl) (by kernel_rfl) rfl
theorem aFg:jH 244:=dJ (by rfl) (by kernel_rfl) rfl
theorem aGD:jH 229:=dJ (by rfl) (by kernel_rfl) rfl
theorem aGI:jH 206:=dJ (by rfl) (by kernel_rfl) rfl
theorem aGL:jH 178:=dJ (by rfl) (by kernel_rfl) rfl
theorem aJp:jH 179:=dJ (by rfl) (by kernel_rfl) rfl
theorem aJo:jH 207:=dJ (by rfl) (by kernel_rfl) rfl
theorem aJn:jH 245:=dJ (by rfl) (by kernel_rfl) rfl
theorem aJm:jH 257:=dJ (by rfl) (by kernel_rfl) rfl
theorem aFi (R d:Nat)(u:PS→Rs Ex)(hu:dP R d 256 (lvl u 0))(hrd:Rdx (lvl u 0)):dP R d 244 (lvl u 1):=by
 intro s w h;have hmf:∀(fn:Fn) (first cap:Array Value) (w:World),(Instr.makeFunc fn first cap).run Tryz.prog w=.ok (.func fn first cap) w:=fun _ _ _ _=>rfl;have NB:Hid (Blk (w.alloc zX) w.heap.size 42 aP.va):=Blk.new _ _ _;have BL:=aY w zX;have C:=Hj (mC R d 256 257 4 (lvl u 0) hu aCT vZ aJm hrd (vS 4) s (w.alloc zX) (h.alloc zX));rw[←oA u 0 (by decide) s]at C;have HLT:=Hj h.lt;have hz:(w.alloc zX).heap.size=w.heap.size+1:=World.size_alloc ..;rw[hz]at C;have HF:Hid (Fx (On R) w.heap.size w (w.alloc zX)):=Fx.of BL;clear BL h hz hu hrd;generalize lvl u 1 s=Z at *;go_enter Tryz.func244,Tryz.ntmps244;go_upto_region 1 with fail;change (Code.region 1 _ _).wp _ _ _ (w.alloc zX);generalize w.alloc zX=wx at *;go_wp2_with fail;refine C.out.mono ?_;intro r w1 hpo;clear C
 cases Z with
 | no c q=>
  obtain⟨rfl,f1⟩:=hpo;have HF1:=Hj (aJ HF.out f1);clear f1;go_wp2_with fail;exact⟨rfl,rfl,HF1.out⟩
 | ok e s1=>
  obtain⟨v,rfl,⟨b,rfl,xb,eb⟩,h1,f1⟩:=hpo;have HF1:=Hj (aJ HF.out f1);have NB1:=Hj (f1.blk NB.out NB.out.lt (aO HLT.out));have HX1:=Hj xb;have HR1:=Hj h1;have EB:=Hj eb;clear f1 xb h1 eb NB HF
  go_wp2_with (refine eL b.h w.heap.size _ NB1.out rfl rfl _ _ rfl rfl rfl ?_)
  exact bodyPost_ret (fQ rfl _ _ w.heap.size b.h rfl (NB1.out.rowS _)) rfl ⟨_,rfl,⟨b,rfl,(HX1.out.row (fun(x:w.heap.size+1≤w.heap.size)=>by omega) _).imp (fun k _ (x:w.heap.size+1≤k)=>(by show w.heap.size≤k;omega)),EB.out⟩,HR1.out.row HLT.out _,bI HF1.out (.inr (aD _)) _⟩
theorem aHb (R d:Nat)(u:PS→Rs Ex)(hu:dP R d 244 (lvl u 1))(hrd:Rdx (lvl u 1)):dP R d 229 (lvl u 2):=by
 intro s w h;have hmf:∀(fn:Fn) (first cap:Array Value) (w:World),(Instr.makeFunc fn first cap).run Tryz.prog w=.ok (.func fn first cap) w:=fun _ _ _ _=>rfl;have NB:Hid (Blk (w.alloc zX) w.heap.size 42 aP.va):=Blk.new _ _ _;have BL:=aY w zX;have C:=Hj (mC R d 244 245 3 (lvl u 1) hu aFg yB aJn hrd (vS 3) s (w.alloc zX) (h.alloc zX));rw[←oA u 1 (by decide) s]at C;have HLT:=Hj h.lt;have hz:(w.alloc zX).heap.size=w.heap.size+1:=World.size_alloc ..;rw[hz]at C;have HF:Hid (Fx (On R) w.heap.size w (w.alloc zX)):=Fx.of BL;clear BL h hz hu hrd;generalize lvl u 2 s=Z at *;go_enter Tryz.func229,Tryz.ntmps229;go_upto_region 1 with fail;change (Code.region 1 _ _).wp _ _ _ (w.alloc zX);generalize w.alloc zX=wx at *;go_wp2_with fail;refine C.out.mono ?_;intro r w1 hpo;clear C
 cases Z with
 | no c q=>
  obtain⟨rfl,f1⟩:=hpo;have HF1:=Hj (aJ HF.out f1);clear f1;go_wp2_with fail;exact⟨rfl,rfl,HF1.out⟩
 | ok e s1=>
  obtain⟨v,rfl,⟨b,rfl,xb,eb⟩,h1,f1⟩:=hpo;have HF1:=Hj (aJ HF.out f1);have NB1:=Hj (f1.blk NB.out NB.out.lt (aO HLT.out));have HX1:=Hj xb;have HR1:=Hj h1;have EB:=Hj eb;clear f1 xb h1 eb NB HF
  go_wp2_with (refine eL b.h w.heap.size _ NB1.out rfl rfl _ _ rfl rfl rfl ?_)
  exact bodyPost_ret (fQ rfl _ _ w.heap.size b.h rfl (NB1.out.rowS _)) rfl ⟨_,rfl,⟨b,rfl,(HX1.out.row (fun(x:w.heap.size+1≤w.heap.size)=>by omega) _).imp (fun k _ (x:w.heap.size+1≤k)=>(by show w.heap.size≤k;omega)),EB.out⟩,HR1.out.row HLT.out _,bI HF1.out (.inr (aD _)) _⟩
theorem aHj (R d:Nat)(u:PS→Rs Ex)(hu:dP R d 206 (lvl u 3))(hrd:Rdx (lvl u 3)):dP R d 178 (lvl u 4):=by
 intro s w h;have hmf:∀(fn:Fn) (first cap:Array Value) (w:World),(Instr.makeFunc fn first cap).run Tryz.prog w=.ok (.func fn first cap) w:=fun _ _ _ _=>rfl;have NB:Hid (Blk (w.alloc zX) w.heap.size 42 aP.va):=Blk.new _ _ _;have BL:=aY w zX;have C:=Hj (mC R d 206 207 1 (lvl u 3) hu aGI yE aJo hrd (vS 1) s (w.alloc zX) (h.alloc zX));rw[←oA u 3 (by decide) s]at C;have HLT:=Hj h.lt;have hz:(w.alloc zX).heap.size=w.heap.size+1:=World.size_alloc ..;rw[hz]at C;have HF:Hid (Fx (On R) w.heap.size w (w.alloc zX)):=Fx.of BL;clear BL h hz hu hrd;generalize lvl u 4 s=Z at *;go_enter Tryz.func178,Tryz.ntmps178;go_upto_region 1 with fail;change (Code.region 1 _ _).wp _ _ _ (w.alloc zX);generalize w.alloc zX=wx at *;go_wp2_with fail;refine C.out.mono ?_;intro r w1 hpo;clear C
 cases Z with
 | no c q=>
  obtain⟨rfl,f1⟩:=hpo;have HF1:=Hj (aJ HF.out f1);clear f1;go_wp2_with fail;exact⟨rfl,rfl,HF1.out⟩
 | ok e s1=>
  obtain⟨v,rfl,⟨b,rfl,xb,eb⟩,h1,f1⟩:=hpo;have HF1:=Hj (aJ HF.out f1);have NB1:=Hj (f1.blk NB.out NB.out.lt (aO HLT.out));have HX1:=Hj xb;have HR1:=Hj h1;have EB:=Hj eb;clear f1 xb h1 eb NB HF
  go_wp2_with (refine eL b.h w.heap.size _ NB1.out rfl rfl _ _ rfl rfl rfl ?_)
  exact bodyPost_ret (fQ rfl _ _ w.heap.size b.h rfl (NB1.out.rowS _)) rfl ⟨_,rfl,⟨b,rfl,(HX1.out.row (fun(x:w.heap.size+1≤w.heap.size)=>by omega) _).imp (fun k _ (x:w.heap.size+1≤k)=>(by show w.heap.size≤k;omega)),EB.out⟩,HR1.out.row HLT.out _,bI HF1.out (.inr (aD _)) _⟩
theorem aFj (R d:Nat)(u:PS→Rs Ex)(hu:dP R d 178 (lvl u 4))(hrd:Rdx (lvl u 4)):dP R d 151 (lvl u 5):=by
 intro s w h;have hmf:∀(fn:Fn) (first cap:Array Value) (w:World),(Instr.makeFunc fn first cap).run Tryz.prog w=.ok (.func fn first cap) w:=fun _ _ _ _=>rfl;have NB:Hid (Blk (w.alloc zX) w.heap.size 42 aP.va):=Blk.new _ _ _;have BL:=aY w zX;have C:=Hj (mC R d 178 179 0 (lvl u 4) hu aGL aAl aJp hrd (vS 0) s (w.alloc zX) (h.alloc zX));rw[←oA u 4 (by decide) s]at C;have HLT:=Hj h.lt;have hz:(w.alloc zX).heap.size=w.heap.size+1:=World.size_alloc ..;rw[hz]at C;have HF:Hid (Fx (On R) w.heap.size w (w.alloc zX)):=Fx.of BL;clear BL h hz hu hrd;generalize lvl u 5 s=Z at *;go_enter Tryz.func151,Tryz.ntmps151;go_upto_region 1 with fail;change (Code.region 1 _ _).wp _ _ _ (w.alloc zX);generalize w.alloc zX=wx at *;go_wp2_with fail;refine C.out.mono ?_;intro r w1 hpo;clear C
 cases Z with
 | no c q=>
  obtain⟨rfl,f1⟩:=hpo;have HF1:=Hj (aJ HF.out f1);clear f1;go_wp2_with fail;exact⟨rfl,rfl,HF1.out⟩
 | ok e s1=>
  obtain⟨v,rfl,⟨b,rfl,xb,eb⟩,h1,f1⟩:=hpo;have HF1:=Hj (aJ HF.out f1);have NB1:=Hj (f1.blk NB.out NB.out.lt (aO HLT.out));have HX1:=Hj xb;have HR1:=Hj h1;have EB:=Hj eb;clear f1 xb h1 eb NB HF
  go_wp2_with (refine eL b.h w.heap.size _ NB1.out rfl rfl _ _ rfl rfl rfl ?_)
  exact bodyPost_ret (fQ rfl _ _ w.heap.size b.h rfl (NB1.out.rowS _)) rfl ⟨_,rfl,⟨b,rfl,(HX1.out.row (fun(x:w.heap.size+1≤w.heap.size)=>by omega) _).imp (fun k _ (x:w.heap.size+1≤k)=>(by show w.heap.size≤k;omega)),EB.out⟩,HR1.out.row HLT.out _,bI HF1.out (.inr (aD _)) _⟩
theorem aJR (u:PS→Rs Ex)(s:PS):lvl u 3 s=(lvl u 2 s).bind fun e s'=>if sgO 2 s'.hd.tx=0 then .ok e s' else pM 2 (lvl u 2) e s':=by
 rw[lvl];simp only[if_pos]
theorem aHg (R d:Nat)(u:PS→Rs Ex)(hu:dP R d 229 (lvl u 2)):dP R d 206 (lvl u 3):=by
 intro s w h;have hmf:∀(fn:Fn) (first cap:Array Value) (w:World),(Instr.makeFunc fn first cap).run Tryz.prog w=.ok (.func fn first cap) w:=fun _ _ _ _=>rfl;have ft:=fun t w=>mT t w;have NB:Hid (Blk (w.alloc zX) w.heap.size 42 aP.va):=Blk.new _ _ _;have BL:=aY w zX;have C:=Hj (hu s (w.alloc zX) (h.alloc zX));have HLT:=Hj h.lt;have hz:(w.alloc zX).heap.size=w.heap.size+1:=World.size_alloc ..;rw[hz]at C;have HF:Hid (Fx (On R) w.heap.size w (w.alloc zX)):=Fx.of BL;rw[aJR];generalize hP:lvl u 2=P at *;generalize hZ:(P s).bind (fun e s'=>if sgO 2 s'.hd.tx=0 then .ok e s' else pM 2 P e s')=Z;have HZ:=Hj hZ;have HSZ:=Hj hz;clear BL h hz hZ hP;go_enter Tryz.func206,Tryz.ntmps206;go_upto_region 1 with fail;change (Code.region 1 _ _).wp _ _ _ (w.alloc zX);generalize w.alloc zX=wx at *;go_wp2_with fail;refine C.out.mono ?_;intro r w1 hpo;clear C
 cases hres:P s with
 | no c q=>
  rw[hres]at hpo;obtain⟨rfl,f1⟩:=hpo;have HF1:=Hj (aJ HF.out f1);have E:Hid (Z=.no c q):=by show Z=_;rw[←HZ.out,hres];rfl
  clear f1 hres;go_wp2_with fail;refine⟨rfl,?_⟩;rw[E.out];exact⟨rfl,HF1.out⟩
 | ok e s1=>
  rw[hres]at hpo;obtain⟨v,rfl,⟨b,rfl,xb,eb⟩,h1,f1⟩:=hpo;have E:Hid ((if sgO 2 s1.hd.tx=0 then .ok e s1 else pM 2 P e s1)=Z):=by show _=Z;rw[←HZ.out,hres];rfl
  have BLb:=bS (Below.refl w1.heap.size w1) (aD _) (xO b.h);have hs1:=f1.size;have hs0:=HSZ.out;have HX1:=Hj ((xb.imp (D':=fun k=>w.heap.size<k∧k≠w1.heap.size) (fun k hk (x:w.heap.size+1≤k)=>⟨by omega,by omega⟩)).bel BLb);have HG1:Hid (w.heap.size<w1.heap.size):=by show w.heap.size<w1.heap.size;omega
  have BB:Hid (Blk (bx w1 (xO b.h)) w1.heap.size 42 b.h.va):=zQ w1 b.h;have HR1:=Hj (h1.below BLb h1.lt);have n1:=f1.blk NB.out NB.out.lt (aO HLT.out);have NB1:=Hj (n1.below BLb n1.lt);have HF1:=Hj (aZ (aJ HF.out f1) BLb);have EB:=Hj eb;clear hres xb h1 f1 BLb hs1 hs0 HSZ NB HF eb n1 HZ;unfold EH.v;go_upto_region 2 with fail;rw[kY];generalize w1.heap.size=g at *;generalize bx w1 (xO b.h)=w2 at *;go_wp2_with fail;refine(cI R d s1 w2 HR1.out).mono ?_;rintro r w3 ⟨rfl,hb⟩;have BB2:=Hj (BB.out.below hb BB.out.lt);have NB2:=Hj (NB1.out.below hb NB1.out.lt);have HX2:=Hj (HX1.out.bel hb);have HR2:=Hj (HR1.out.below hb HR1.out.lt);have HF2:=Hj (aZ HF1.out hb);clear BB NB1 HX1 HR1 HF1 hb;go_wp2_with fail;refine(yD s1.hd.tx w3).mono ?_;rintro r w4 ⟨rfl,rfl⟩
  by_cases c:sgO 2 s1.hd.tx=0
  ·have E2:Hid (Z=.ok e s1):=by show Z=_;rw[←E.out,if_pos c]
   rw[c];clear E
   go_wp2_with (first
    | refine jV b.h g BB2.out rfl _ rfl rfl ?_
    | refine eL b.h w.heap.size _ NB2.out rfl rfl _ _ rfl rfl rfl ?_)
   refine bodyPost_ret (fQ rfl _ _ w.heap.size b.h rfl (NB2.out.rowS _)) rfl ?_;rw[E2.out];exact⟨_,rfl,⟨b,rfl,(HX2.out.row (fun x=>Nat.lt_irrefl _ x.1) _).imp (fun k _ x=>Nat.le_of_lt x.1),EB.out⟩,HR2.out.row HLT.out _,bI HF2.out (.inr (aD _)) _⟩
  ·have E2:Hid (pM 2 P e s1=Z):=by show _=Z;rw[←E.out,if_neg c]
   have hk:s1.hd.kd≠0:=HR2.out.good.kd (aCP c);have c2:(sgO 2 s1.hd.tx == 0)=false:=by simp[c]
   have BI:=Hj fun w D hL hLw h hx=>tN R d 229 2 P hu aGD s1 b e w D hL hLw h hk hx EB.out (vS 2 _);clear hk c E;generalize sgO 2 s1.hd.tx=op at *
   go_wp2_with (refine jV b.h g BB2.out rfl _ rfl rfl ?_)
   refine(BI.out w4 (fun k=>w.heap.size<k∧k≠g) (fun x=>Nat.lt_asymm x.1 HLT.out) (fun k hk=>⟨aE (Nat.lt_trans HG1.out BB2.out.lt) hk,Nat.ne_of_gt (aE BB2.out.lt hk)⟩) HR2.out HX2.out).mono ?_;intro r w5 hpo
   cases hres:pM 2 P e s1 with
   | no c q=>
    rw[hres]at hpo;obtain⟨rfl,f5⟩:=hpo;have HF5:=Hj (aJ HF2.out f5);have E5:Hid (Z=.no c q):=by show Z=_;rw[←E2.out,hres]
    clear f5 hres;go_wp2_with fail;refine⟨rfl,?_⟩;rw[E5.out];exact⟨rfl,HF5.out⟩
   | ok e2 s2=>
    rw[hres]at hpo;obtain⟨v,rfl,⟨b2,rfl,xb,eb⟩,h5,f5⟩:=hpo;have E5:Hid (Z=.ok e2 s2):=by show Z=_;rw[←E2.out,hres]
    have HF5:=Hj (aJ HF2.out f5);have HRg:Hid (R<g):=Nat.lt_trans HLT.out HG1.out;have BB5:=Hj (f5.blk BB2.out BB2.out.lt (aO HRg.out));have NB5:=Hj (f5.blk NB2.out NB2.out.lt (aO HLT.out));have HX5:=Hj xb;have HR5:=Hj h5;have EB5:=Hj eb;clear f5 hres xb h5 eb BB2 NB2 HF2 HR2 HX2 E2
    go_upto_region 5 with(refine eL b2.h g _ BB5.out rfl rfl _ _ rfl rfl rfl ?_)
    have BB6:=Hj (BB5.out.rowS b2.h.va);have NB6:=Hj (NB5.out.off (Nat.ne_of_lt HG1.out) b2.h.va);have HX6:=Hj (HX5.out.row (fun x=>x.2 rfl) b2.h.va);have HR6:=Hj (HR5.out.row HRg.out b2.h.va);have HF6:=Hj (bI HF5.out (.inr (Nat.le_of_lt HG1.out)) b2.h.va);clear BB5 NB5 HX5 HR5 HF5;generalize w5.setRow g b2.h.va=w6 at *
    go_wp2_with (first
     | refine jV b2.h g BB6.out rfl _ rfl rfl ?_
     | refine eL b2.h w.heap.size _ NB6.out rfl rfl _ _ rfl rfl rfl ?_)
    refine bodyPost_ret (fQ rfl _ _ w.heap.size b2.h rfl (NB6.out.rowS _)) rfl ?_;rw[E5.out];exact⟨_,rfl,⟨b2,rfl,(HX6.out.row (fun x=>Nat.lt_irrefl _ x.1) _).imp (fun k _ x=>Nat.le_of_lt x.1),EB5.out⟩,HR6.out.row HLT.out _,bI HF6.out (.inr (aD _)) _⟩
theorem wA (R d:Nat)(u:PS→Rs Ex)(hu:dP R d 256 u)(hrd:Rdx u):dP R d 151 (lvl u 5):=
 aFj R d u (aHj R d u (aHg R d u (aHb R d u (aFi R d u hu hrd) (qA hrd 1))) (qA hrd 3)) (qA hrd 4)
end Go.Proofs.YtkbicfffokegeaaGreatDoor
