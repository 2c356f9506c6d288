/-
  Layer 12's checks answer true, whatever program is handed in. (part 32 of 35) Conditions: none beside what the card ties.
-/
import Derived.Test.YtkbicfffokegeaaGreatDoorUad
import Derived.Test.YtkbicfffokegeaaGreatDoorUbe
import Derived.Test.YtkbicfffokegeaaGreatDoorUay
import Derived.Test.YtkbicfffokegeaaGreatDoorUao
namespace Go.Proofs.YtkbicfffokegeaaGreatDoor
set_option maxHeartbeats 16000000
open Go.RowKit
set_option maxRecDepth 100000
def Sat (t m x:Nat):Prop:=x≤2*m+2∧(t≤m→x=t)∧(m<t→m<x)
theorem Sat.more {t u m x:Nat}(h:Sat t m x)(hx:m<x)(hu:t≤u):Sat u m x:=by
 obtain⟨h1,h2,h3⟩:=h;refine⟨h1,fun h=>?_,fun _=>hx⟩;have:=h2 (by omega);omega
theorem Sat.add {t u m x y:Nat}(h:Sat t m x)(hx:x≤m)(k:Sat u (m-x) y):Sat (t+u) m (x+y):=by
 obtain⟨h1,h2,h3⟩:=h;obtain⟨k1,k2,k3⟩:=k
 have e:t≤m:=by
  rcases Nat.lt_or_ge m t with g|g
  ·have:=h3 g;omega
  ·exact g
 have e1:=h2 e;refine⟨by omega,fun g=>?_,fun g=>?_⟩
 ·have:=k2 (by omega);omega
 ·have:=k3 (by omega);omega
theorem str_size' (l:List UInt8):(⟨l.toArray⟩:ByteArray).size=l.length:=by rw[Lib.size_eq]
def WgX (B:Nat)(e:Ex):Prop:=∀(m:Nat) (w:World),e.In B w→B≤w.heap.size→m≤100000→Calls Tryz.prog 12 #[e.h.v,.int .i64 (m:Int)] w fun r w'=>(∃x:Nat,r=.returned (.int .i64 (x:Int))∧Sat e.wt m x)∧Below w.heap.size w w'
theorem gWgX_of (B:Nat)(h:EH)(k:Nat→Ex)(ih:∀i,i<h.s.n→WgX B (k i))(m:Nat)(w:World)(hok:h.ok)(hX0:XsIn B w h.s k)(hB:B≤w.heap.size)(hm:m≤100000) :
  Calls Tryz.prog 12 #[h.v,.int .i64 (m:Int)] w fun r w'=>(∃x:Nat,r=.returned (.int .i64 (x:Int))∧Sat (1+h.nm.length+sm (fun i=>(k i).wt) h.s.n) m x)∧Below w.heap.size w w':=by
 obtain⟨op,ps,bo,it,fl,nm,⟨ao,n,c⟩⟩:=h;dsimp only at ih hX0 ⊢;have hX:XsIn B w ⟨ao,n,c⟩ k:=hX0;have HI:=Hj hX;have IH:=Hj ih;have HB:=Hj hB;have hc:=hok.s;have hnm:=hok.nm;have hmx:n≤maxLen:=Nat.le_trans hc.1 hc.2.1;dsimp only at hnm;unfold maxLen at hmx hnm;have HM:=Hj hmx;have HMM:=Hj hm;have hsz:=str_size' nm;obtain⟨q,hq⟩:∃q,min nm.length (m+1)=q:=⟨_,rfl⟩;have hq':min ((nm.length:Nat):Int) ((m:Int)+1)=(q:Int):=by omega
 have S0:Sat (1+nm.length) m (1+q):=⟨by omega,fun _=>by omega,fun _=>by omega⟩;have ov1:IntKind.i64.wrap ((m:Int)+1)=(m:Int)+1:=by rw[IntKind.wrap_i64];omega
 have ov2:IntKind.i64.wrap (1+(q:Int))=((1+q:Nat):Int):=by rw[IntKind.wrap_i64];omega
 have c5:(bx w (xO ⟨op,ps,bo,it,fl,nm,⟨ao,n,c⟩⟩)).cell? ⟨w.heap.size,5,none⟩=some (.string ⟨nm.toArray⟩):=cell_obj (bx_new w (xO ⟨op,ps,bo,it,fl,nm,⟨ao,n,c⟩⟩)) 5;have S0:=Hj S0;clear ih hok hX0 hX hB hc hnm hmx hm hq;show Calls Tryz.prog 12 #[.agg #[.int .u8 op,.int .i64 ps,.bool bo,.int .i32 it,.int .u64 fl,.string ⟨nm.toArray⟩,.slice ao n c],.int .i64 (m:Int)] w _;go_enter Tryz.func12,Tryz.ntmps12;go_upto_region 1 with fail;rw[bx_x w ⟨op,ps,bo,it,fl,nm,⟨ao,n,c⟩⟩];go_wp2_with fail
 go_loopg [5,6] n (fun gk t i wr=>∃j x:Nat,i=.int .i64 (j:Int)∧t=.int .i64 (x:Int)∧Hid (gk=n-j∧j≤n)∧Hid (Sat (1+nm.length+sm (fun i=>(k i).wt) j) m x)∧Hid (Below (bx w (xO ⟨op,ps,bo,it,fl,nm,⟨ao,n,c⟩⟩)).heap.size (bx w (xO ⟨op,ps,bo,it,fl,nm,⟨ao,n,c⟩⟩)) wr))
 case atStart=>exact⟨0,1+q,rfl,by simp,⟨rfl,Nat.zero_le _⟩,S0.out,Below.refl _ _⟩
 case round=>
  obtain⟨j,x,rfl,rfl,HJ,HS,HBw⟩:=hrel;have hz:(bx w (xO ⟨op,ps,bo,it,fl,nm,⟨ao,n,c⟩⟩)).heap.size=w.heap.size+1:=bx_size _ _;have hBx:wr.heap[w.heap.size]? = some (xO ⟨op,ps,bo,it,fl,nm,⟨ao,n,c⟩⟩):=(HBw.out.block _ (by omega)).trans (bx_new _ _);have c6:wr.cell? ⟨w.heap.size,6,none⟩=some (.slice ao n c):=(x_cells hBx).2.2.2.2.2.2;have BEL:Hid (Below w.heap.size w wr):=(bx_bel (Below.refl _ _) (Nat.le_refl _) _).trans (HBw.out.mono (by omega));have HZ:=Hj hz;clear hBx hz c5 hsz hq' ov1 ov2;have hxb:x≤200002:=by have:=HS.out.1;have:=HMM.out;omega
  by_cases hlt:j<n
  ·have z0:(j:Int)<(n:Int):=by omega
   by_cases hle:x≤m
   ·have z1:(x:Int)≤(m:Int):=by omega
    have ovi:IntKind.i64.wrap ((j:Int)+1)=((j+1:Nat):Int):=by have:=HM.out;rw[IntKind.wrap_i64];omega
    obtain⟨a,b,o,rfl,hA,hb,X,I⟩:=XsIn.at (HI.out.below BEL.out HB.out) (i:=j) hlt;have d0:=X.c0;have d1:=X.c1;have d2:=X.c2;have d3:=X.c3;have d4:=X.c4;have d5:=X.c5;have d6:=X.c6;have C:=Hj (IH.out j hlt (m-x) wr I (Nat.le_trans HB.out BEL.out.size) (by have:=HMM.out;omega));have ovs:IntKind.i64.wrap ((m:Int)-(x:Int))=((m-x:Nat):Int):=by rw[IntKind.wrap_i64];have:=HMM.out;omega
    have HLE:=Hj hle;have HLT:=Hj hlt;have hHM:=HMM.out;clear X I hb hle hlt;go_wp2_with fail;refine C.out.mono ?_;rintro e w' ⟨⟨y,rfl,hy⟩,hb⟩;have ov:IntKind.i64.wrap ((x:Int)+(y:Int))=((x+y:Nat):Int):=by rw[IntKind.wrap_i64];have:=hy.1;omega
    have HY:=Hj hy;have HB2:=Hj (HBw.out.trans (hb.mono HBw.out.size));clear hy hb;go_wp2_with fail
    go_roundg (n-(j+1))
    case measure=>have:=HJ.out;have:=HLT.out;omega
    case rel=>exact⟨j+1,x+y,by go_num,rfl,⟨rfl,HLT.out⟩,by have:=HS.out.add HLE.out HY.out;rwa [Nat.add_assoc]at this,HB2.out⟩
   ·have z1:¬(x:Int)≤(m:Int):=by omega
    have R:=Hj (HS.out.more (u:=1+nm.length+sm (fun i=>(k i).wt) n) (by omega) (by have:=sm_one (f:=fun i=>(k i).wt) hlt;omega));clear hlt hle;go_wp2_with fail;go_ret;exact⟨⟨x,rfl,R.out⟩,BEL.out⟩
  ·obtain rfl:j=n:=by have:=HJ.out;omega
   have z0:¬(j:Int)<(j:Int):=by omega
   clear hlt;go_wp2_with fail;go_ret;exact⟨⟨x,rfl,HS.out⟩,BEL.out⟩
theorem gWgX_any (B:Nat)(e:Ex):WgX B e:=by
 induction e using Ex.ind with
 | H e ih=>
  intro m w hI hB hm;rw[Ex.wt_eq];exact gWgX_of B e.h e.k ih m w hI.ok hI.xs hB hm
theorem gWgXs_any (B:Nat)(s:Sl)(k:Nat→Ex)(m:Nat)(w:World)(hX:XsIn B w s k)(hB:B≤w.heap.size)(hm:m≤100000) :
  Calls Tryz.prog 35 #[.slice s.ao s.n s.c,.int .i64 (m:Int)] w fun r w'=>(∃x:Nat,r=.returned (.int .i64 (x:Int))∧Sat (sm (fun i=>(k i).wt) s.n) m x)∧Below w.heap.size w w':=by
 have HI:=Hj hX;have HB:=Hj hB;have hc:=hX.1;have hmx:s.n≤maxLen:=Nat.le_trans hc.1 hc.2.1;unfold maxLen at hmx;have HM:=Hj hmx;have HMM:=Hj hm;obtain⟨ao,n,c⟩:=s;dsimp only at *;clear hX hB hc hmx hm;go_enter Tryz.func35,Tryz.ntmps35;go_wp2_with fail
 go_loopg [5,6] n (fun gk t i wr=>∃j x:Nat,i=.int .i64 (j:Int)∧t=.int .i64 (x:Int)∧Hid (gk=n-j∧j≤n)∧Hid (Sat (sm (fun i=>(k i).wt) j) m x)∧Hid (Below w.heap.size w wr))
 case atStart=>exact⟨0,0,rfl,rfl,⟨rfl,Nat.zero_le _⟩,⟨by omega,fun _=>rfl,fun h=>by simp[sm]at h⟩,Below.refl _ _⟩
 case round=>
  obtain⟨j,x,rfl,rfl,HJ,HS,BEL⟩:=hrel;have hxb:x≤200002:=by have:=HS.out.1;have:=HMM.out;omega
  by_cases hlt:j<n
  ·have z0:(j:Int)<(n:Int):=by omega
   by_cases hle:x≤m
   ·have z1:(x:Int)≤(m:Int):=by omega
    have ovi:IntKind.i64.wrap ((j:Int)+1)=((j+1:Nat):Int):=by have:=HM.out;rw[IntKind.wrap_i64];omega
    obtain⟨a,b,o,rfl,hA,hb,X,I⟩:=XsIn.at (HI.out.below BEL.out HB.out) (i:=j) hlt;have d0:=X.c0;have d1:=X.c1;have d2:=X.c2;have d3:=X.c3;have d4:=X.c4;have d5:=X.c5;have d6:=X.c6;have C:=Hj (gWgX_any B (k j) (m-x) wr I (Nat.le_trans HB.out BEL.out.size) (by have:=HMM.out;omega));have ovs:IntKind.i64.wrap ((m:Int)-(x:Int))=((m-x:Nat):Int):=by rw[IntKind.wrap_i64];have:=HMM.out;omega
    have HLE:=Hj hle;have HLT:=Hj hlt;have hHM:=HMM.out;clear X I hb hle hlt;go_wp2_with fail;refine C.out.mono ?_;rintro e w' ⟨⟨y,rfl,hy⟩,hb⟩;have ov:IntKind.i64.wrap ((x:Int)+(y:Int))=((x+y:Nat):Int):=by rw[IntKind.wrap_i64];have:=hy.1;omega
    have HY:=Hj hy;have HB2:=Hj (BEL.out.trans (hb.mono BEL.out.size));clear hy hb;go_wp2_with fail
    go_roundg (n-(j+1))
    case measure=>have:=HJ.out;have:=HLT.out;omega
    case rel=>exact⟨j+1,x+y,by go_num,rfl,⟨rfl,HLT.out⟩,by have:=HS.out.add HLE.out HY.out;exact this,HB2.out⟩
   ·have z1:¬(x:Int)≤(m:Int):=by omega
    have R:=Hj (HS.out.more (u:=sm (fun i=>(k i).wt) n) (by omega) (sm_le (by omega)));clear hlt hle;go_wp2_with fail;go_ret;exact⟨⟨x,rfl,R.out⟩,BEL.out⟩
  ·obtain rfl:j=n:=by have:=HJ.out;omega
   have z0:¬(j:Int)<(j:Int):=by omega
   clear hlt;go_wp2_with fail;go_ret;exact⟨⟨x,rfl,HS.out⟩,BEL.out⟩
theorem Sat.head {t m x l q:Nat}(h:Sat t m x)(hx:x≤m)(hq:min l (m+1)=q):Sat (t+(1+l)) m (x+1+q):=by
 obtain⟨h1,h2,h3⟩:=h
 have e:t=x:=by
  rcases Nat.lt_or_ge m t with g|g
  ·have:=h3 g;omega
  ·exact(h2 g).symm
 exact⟨by omega,fun _=>by omega,fun _=>by omega⟩
def WgSs (B:Nat)(s:Sl)(k:Nat→St):Prop:=∀(m:Nat) (w:World),SsIn B w s k→B≤w.heap.size→m≤100000 →
 Calls Tryz.prog 18 #[.slice s.ao s.n s.c,.int .i64 (m:Int)] w fun r w'=>(∃x:Nat,r=.returned (.int .i64 (x:Int))∧Sat (sm (fun i=>(k i).wt) s.n) m x)∧Below w.heap.size w w'
theorem gWgS_of (B:Nat)(s:Sl)(k:Nat→St)(ih:∀i,i<s.n→WgSs B (k i).h.ts (k i).t∧WgSs B (k i).h.es (k i).l):WgSs B s k:=by
 intro m w hX hB hm;have HI:=Hj hX;have IH:=Hj ih;have HB:=Hj hB;have hc:=hX.1;have hmx:s.n≤maxLen:=Nat.le_trans hc.1 hc.2.1;unfold maxLen at hmx;have HM:=Hj hmx;have HMM:=Hj hm;obtain⟨ao,n,c⟩:=s;dsimp only at *;clear hX hB hc hmx hm ih;go_enter Tryz.func18,Tryz.ntmps18;go_wp2_with fail
 go_loopg [5,6] n (fun gk t i wr=>∃j x:Nat,i=.int .i64 (j:Int)∧t=.int .i64 (x:Int)∧Hid (gk=n-j∧j≤n)∧Hid (Sat (sm (fun i=>(k i).wt) j) m x)∧Hid (Below w.heap.size w wr))
 case atStart=>exact⟨0,0,rfl,rfl,⟨rfl,Nat.zero_le _⟩,⟨by omega,fun _=>rfl,fun h=>by simp[sm]at h⟩,Below.refl _ _⟩
 case round=>
  obtain⟨j,x,rfl,rfl,HJ,HS,BEL⟩:=hrel;have hxb:x≤200002:=by have:=HS.out.1;have:=HMM.out;omega
  by_cases hlt:j<n
  ·have z0:(j:Int)<(n:Int):=by omega
   by_cases hle:x≤m
   ·have z1:(x:Int)≤(m:Int):=by omega
    have ovi:IntKind.i64.wrap ((j:Int)+1)=((j+1:Nat):Int):=by have:=HM.out;rw[IntKind.wrap_i64];omega
    obtain⟨a,b,o,rfl,hA,hb,X,I⟩:=SsIn.at (HI.out.below BEL.out HB.out) (i:=j) hlt;have d2:=X.c2;have d3:=X.c3;have XX:=Hj (And.intro hb X);have II:=Hj I;have hsz:=str_size' (k j).h.nm;obtain⟨q,hq⟩:∃q,min (k j).h.nm.length (m+1)=q:=⟨_,rfl⟩;have hq':min (((k j).h.nm.length:Nat):Int) ((m:Int)+1)=(q:Int):=by omega
    have S1:=Hj (HS.out.head hle hq);have HLT:=Hj hlt;have hHM:=HMM.out;have HW:=Hj (show sm (fun i=>(k i).wt) (j+1)=sm (fun i=>(k i).wt) j+(k j).wt from rfl);have HE:=Hj (St.wt_eq (k j));have ov0:IntKind.i64.wrap ((m:Int)+1)=(m:Int)+1:=by rw[IntKind.wrap_i64];omega
    have ov1:IntKind.i64.wrap ((x:Int)+1)=(x:Int)+1:=by rw[IntKind.wrap_i64];omega
    have ov2:IntKind.i64.wrap ((x:Int)+1+(q:Int))=((x+1+q:Nat):Int):=by rw[IntKind.wrap_i64];omega
    obtain⟨x1,hx1⟩:∃x1,x+1+q=x1:=⟨_,rfl⟩;have hx1':((x+1+q:Nat):Int)=(x1:Int):=by omega
    rw[hx1']at ov2;rw[hx1]at S1;clear X I hb hle hlt hq hx1 hx1';go_upto_region 6 with fail;have HX1:Hid (x1≤200002):=by have:=S1.out.1;have:=HMM.out;show _≤_;omega
    by_cases h1:x1≤m
    ·have y1:(x1:Int)≤(m:Int):=by omega
     have C1:=Hj (gWgXs_any B (k j).h.xs (k j).x (m-x1) wr (II.out.xs) (Nat.le_trans HB.out BEL.out.size) (by have:=HMM.out;omega));have os1:IntKind.i64.wrap ((m:Int)-(x1:Int))=((m-x1:Nat):Int):=by rw[IntKind.wrap_i64];have:=HMM.out;omega
     have HL1:=Hj h1;clear h1;go_wp2_with fail;refine C1.out.mono ?_;rintro e w1 ⟨⟨y,rfl,hy⟩,hb⟩;have S2:=Hj (S1.out.add HL1.out hy);have ov:IntKind.i64.wrap ((x1:Int)+(y:Int))=((x1+y:Nat):Int):=by rw[IntKind.wrap_i64];have:=hy.1;have:=HX1.out;have:=HMM.out;omega
     have BEL1:=Hj (BEL.out.trans (hb.mono BEL.out.size));have BEL1':Hid (Below wr.heap.size wr w1):=hb;obtain⟨x2,hx⟩:∃z,x1+y=z:=⟨_,rfl⟩;have hx':((x1+y:Nat):Int)=(x2:Int):=by omega
     rw[hx']at ov;rw[hx]at S2;go_upto_region 8 with fail;clear hy hb hx hx' os1 y1 ov C1 d2 d3 hsz hq' ov0 ov1 ov2;have HX2:Hid (x2≤200002):=by have:=S2.out.1;have:=HMM.out;show _≤_;omega
     by_cases h2:x2≤m
     ·have y2:(x2:Int)≤(m:Int):=by omega
      have XC:=XX.out.2.below XX.out.1 BEL1'.out (Nat.le_trans HB.out BEL.out.size);have d4:=XC.c4;have d5:=XC.c5;have d6:=XC.c6;have d7:=XC.c7;have d8:=XC.c8;have d9:=XC.c9;have d10:=XC.c10;clear XC;have C2:=Hj (gWgX_any B (k j).e (m-x2) w1 (II.out.ex.below (BEL1'.out) (Nat.le_trans HB.out BEL.out.size)) (Nat.le_trans HB.out BEL1.out.size) (by have:=HMM.out;omega));have os2:IntKind.i64.wrap ((m:Int)-(x2:Int))=((m-x2:Nat):Int):=by rw[IntKind.wrap_i64];have:=HMM.out;omega
      have HL2:=Hj h2;clear h2;go_wp2_with fail;refine C2.out.mono ?_;rintro e w2 ⟨⟨y,rfl,hy⟩,hb⟩;have S3:=Hj (S2.out.add HL2.out hy);have ov:IntKind.i64.wrap ((x2:Int)+(y:Int))=((x2+y:Nat):Int):=by rw[IntKind.wrap_i64];have:=hy.1;have:=HX2.out;have:=HMM.out;omega
      have BEL2:=Hj (BEL1.out.trans (hb.mono BEL1.out.size));have BEL2':=Hj (BEL1'.out.trans (hb.mono BEL1'.out.size));obtain⟨x3,hx⟩:∃z,x2+y=z:=⟨_,rfl⟩;have hx':((x2+y:Nat):Int)=(x3:Int):=by omega
      rw[hx']at ov;rw[hx]at S3;go_upto_region 10 with fail;clear hy hb hx hx' os2 y2 ov C2 d4 d5 d6 d7 d8 d9 d10;have HX3:Hid (x3≤200002):=by have:=S3.out.1;have:=HMM.out;show _≤_;omega
      by_cases h3:x3≤m
      ·have y3:(x3:Int)≤(m:Int):=by omega
       have XC:=XX.out.2.below XX.out.1 BEL2'.out (Nat.le_trans HB.out BEL.out.size);have d13:=XC.c13;clear XC;have C3:=Hj ((IH.out j HLT.out).1 (m-x3) w2 (II.out.ts.below (BEL2'.out) (Nat.le_trans HB.out BEL.out.size)) (Nat.le_trans HB.out BEL2.out.size) (by have:=HMM.out;omega));have os3:IntKind.i64.wrap ((m:Int)-(x3:Int))=((m-x3:Nat):Int):=by rw[IntKind.wrap_i64];have:=HMM.out;omega
       have HL3:=Hj h3;clear h3;go_wp2_with fail;refine C3.out.mono ?_;rintro e w3 ⟨⟨y,rfl,hy⟩,hb⟩;have S4:=Hj (S3.out.add HL3.out hy);have ov:IntKind.i64.wrap ((x3:Int)+(y:Int))=((x3+y:Nat):Int):=by rw[IntKind.wrap_i64];have:=hy.1;have:=HX3.out;have:=HMM.out;omega
       have BEL3:=Hj (BEL2.out.trans (hb.mono BEL2.out.size));have BEL3':=Hj (BEL2'.out.trans (hb.mono BEL2'.out.size));obtain⟨x4,hx⟩:∃z,x3+y=z:=⟨_,rfl⟩;have hx':((x3+y:Nat):Int)=(x4:Int):=by omega
       rw[hx']at ov;rw[hx]at S4;go_upto_region 12 with fail;clear hy hb hx hx' os3 y3 ov C3 d13;have HX4:Hid (x4≤200002):=by have:=S4.out.1;have:=HMM.out;show _≤_;omega
       by_cases h4:x4≤m
       ·have y4:(x4:Int)≤(m:Int):=by omega
        have XC:=XX.out.2.below XX.out.1 BEL3'.out (Nat.le_trans HB.out BEL.out.size);have d14:=XC.c14;clear XC;have C4:=Hj ((IH.out j HLT.out).2 (m-x4) w3 (II.out.es.below (BEL3'.out) (Nat.le_trans HB.out BEL.out.size)) (Nat.le_trans HB.out BEL3.out.size) (by have:=HMM.out;omega));have os4:IntKind.i64.wrap ((m:Int)-(x4:Int))=((m-x4:Nat):Int):=by rw[IntKind.wrap_i64];have:=HMM.out;omega
        have HL4:=Hj h4;clear h4;go_wp2_with fail;refine C4.out.mono ?_;rintro e w4 ⟨⟨y,rfl,hy⟩,hb⟩;have S5:=Hj (S4.out.add HL4.out hy);have ov:IntKind.i64.wrap ((x4:Int)+(y:Int))=((x4+y:Nat):Int):=by rw[IntKind.wrap_i64];have:=hy.1;have:=HX4.out;have:=HMM.out;omega
        have BEL4:=Hj (BEL3.out.trans (hb.mono BEL3.out.size));have BEL4':=Hj (BEL3'.out.trans (hb.mono BEL3'.out.size));obtain⟨x5,hx⟩:∃z,x4+y=z:=⟨_,rfl⟩;have hx':((x4+y:Nat):Int)=(x5:Int):=by omega
        rw[hx']at ov;rw[hx]at S5;clear hy hb hx hx' C4;go_wp2_with fail
        go_roundg (n-(j+1))
        case measure=>have:=HJ.out;have:=HLT.out;omega
        case rel=>exact⟨j+1,x5,by go_num,rfl,⟨rfl,HLT.out⟩,by have:=S5.out;rw[HW.out,HE.out];rwa [show sm (fun i=>(k i).wt) j+(1+(k j).h.nm.length)+sm (fun i=>((k j).x i).wt) (k j).h.xs.n+(k j).e.wt+sm (fun i=>((k j).t i).wt) (k j).h.ts.n+sm (fun i=>((k j).l i).wt) (k j).h.es.n=sm (fun i=>(k i).wt) j+(1+(k j).h.nm.length+sm (fun i=>((k j).x i).wt) (k j).h.xs.n+(k j).e.wt+sm (fun i=>((k j).t i).wt) (k j).h.ts.n+sm (fun i=>((k j).l i).wt) (k j).h.es.n) by omega]at this,BEL4.out⟩
       ·have y4:¬(x4:Int)≤(m:Int):=by omega
        have HL4:=Hj h4;clear h4;go_wp2_with fail
        go_roundg (n-(j+1))
        case measure=>have:=HJ.out;have:=HLT.out;omega
        case rel=>exact⟨j+1,x4,by go_num,rfl,⟨rfl,HLT.out⟩,S4.out.more (by have:=HL4.out;omega) (by rw[HW.out,HE.out];omega),BEL3.out⟩
      ·have y3:¬(x3:Int)≤(m:Int):=by omega
       have HL3:=Hj h3;clear h3;go_wp2_with fail
       go_roundg (n-(j+1))
       case measure=>have:=HJ.out;have:=HLT.out;omega
       case rel=>exact⟨j+1,x3,by go_num,rfl,⟨rfl,HLT.out⟩,S3.out.more (by have:=HL3.out;omega) (by rw[HW.out,HE.out];omega),BEL2.out⟩
     ·have y2:¬(x2:Int)≤(m:Int):=by omega
      have HL2:=Hj h2;clear h2;go_wp2_with fail
      go_roundg (n-(j+1))
      case measure=>have:=HJ.out;have:=HLT.out;omega
      case rel=>exact⟨j+1,x2,by go_num,rfl,⟨rfl,HLT.out⟩,S2.out.more (by have:=HL2.out;omega) (by rw[HW.out,HE.out];omega),BEL1.out⟩
    ·have y1:¬(x1:Int)≤(m:Int):=by omega
     have HL1:=Hj h1;clear h1 d2 d3 hsz hq' ov0 ov1 ov2;go_wp2_with fail
     go_roundg (n-(j+1))
     case measure=>have:=HJ.out;have:=HLT.out;omega
     case rel=>exact⟨j+1,x1,by go_num,rfl,⟨rfl,HLT.out⟩,S1.out.more (by have:=HL1.out;omega) (by rw[HW.out,HE.out];omega),BEL.out⟩
   ·have z1:¬(x:Int)≤(m:Int):=by omega
    have R:=Hj (HS.out.more (u:=sm (fun i=>(k i).wt) n) (by omega) (sm_le (by omega)));clear hlt hle;go_wp2_with fail;go_ret;exact⟨⟨x,rfl,R.out⟩,BEL.out⟩
  ·obtain rfl:j=n:=by have:=HJ.out;omega
   have z0:¬(j:Int)<(j:Int):=by omega
   clear hlt;go_wp2_with fail;go_ret;exact⟨⟨x,rfl,HS.out⟩,BEL.out⟩
theorem gWgS_e (B:Nat)(s:St):WgSs B s.h.ts s.t∧WgSs B s.h.es s.l:=by
 induction s using St.ind with
 | H s it il=>exact⟨gWgS_of B s.h.ts s.t it,gWgS_of B s.h.es s.l il⟩
theorem gWgS_any (B:Nat)(s:Sl)(k:Nat→St):WgSs B s k:=gWgS_of B s k fun i _=>gWgS_e B (k i)
theorem gWeigh_any (p:Pr)(B m:Nat)(w:World)(hp:p.In B w)(hB:B≤w.heap.size)(hm:m≤100000) :
  Calls Tryz.prog 8 #[p.v,.int .i64 (m:Int)] w fun r w'=>(∃x:Nat,r=.returned (.int .i64 (x:Int))∧Sat p.wt m x)∧Below w.heap.size w w':=by
 obtain⟨tk,⟨ao,n,c⟩,k,is,ki,ss,ks⟩:=p;have HI:Hid (DsIn B w ⟨ao,n,c⟩ k):=hp.2.1;have I1:Hid (SsIn B w is ki):=hp.2.2.1;have I2:Hid (SsIn B w ss ks):=hp.2.2.2;have HB:=Hj hB;have hc:=hp.2.1.1;have hmx:n≤maxLen:=Nat.le_trans hc.1 hc.2.1;unfold maxLen at hmx;have HM:=Hj hmx;have HMM:=Hj hm;have hz:(bx w (pO ⟨tk,⟨ao,n,c⟩,k,is,ki,ss,ks⟩)).heap.size=w.heap.size+1:=bx_size _ _;have HZ:=Hj hz;clear hp hB hc hmx hm hz;show Calls Tryz.prog 8 #[.agg #[.int .i64 tk,.slice ao n c,.slice is.ao is.n is.c,.slice ss.ao ss.n ss.c],.int .i64 (m:Int)] w _;go_enter Tryz.func8,Tryz.ntmps8;go_upto_region 1 with fail;rw[bx_p w ⟨tk,⟨ao,n,c⟩,k,is,ki,ss,ks⟩];go_wp2_with fail
 go_loopg [5,6] n (fun gk t i wr=>∃j x:Nat,i=.int .i64 (j:Int)∧t=.int .i64 (x:Int)∧Hid (gk=n-j∧j≤n)∧Hid (Sat (sm (fun i=>(k i).wt) j) m x)∧Hid (Below (bx w (pO ⟨tk,⟨ao,n,c⟩,k,is,ki,ss,ks⟩)).heap.size (bx w (pO ⟨tk,⟨ao,n,c⟩,k,is,ki,ss,ks⟩)) wr))
 case atStart=>exact⟨0,0,rfl,rfl,⟨rfl,Nat.zero_le _⟩,⟨by omega,fun _=>rfl,fun h=>by simp[sm]at h⟩,Below.refl _ _⟩
 case round=>
  obtain⟨j,x,rfl,rfl,HJ,HS,HBw⟩:=hrel;have hBx:wr.heap[w.heap.size]? = some (pO ⟨tk,⟨ao,n,c⟩,k,is,ki,ss,ks⟩):=(HBw.out.block _ (by have:=HZ.out;omega)).trans (bx_new _ _);obtain⟨-,c1,c2,c3⟩:=p_cells hBx;dsimp only at c1 c2 c3;have BEL:Hid (Below w.heap.size w wr):=(bx_bel (Below.refl _ _) (Nat.le_refl _) _).trans (HBw.out.mono (by have:=HZ.out;omega));have HP:=Hj hBx;have hxb:x≤200002:=by have:=HS.out.1;have:=HMM.out;omega
  clear hBx
  by_cases hlt:j<n
  ·have z0:(j:Int)<(n:Int):=by omega
   by_cases hle:x≤m
   ·have z1:(x:Int)≤(m:Int):=by omega
    have ovi:IntKind.i64.wrap ((j:Int)+1)=((j+1:Nat):Int):=by have:=HM.out;rw[IntKind.wrap_i64];omega
    obtain⟨a,b,o,rfl,hA,hb,X,I⟩:=DsIn.at (HI.out.below BEL.out HB.out) (i:=j) hlt;have d2:=X.c2;have XX:=Hj (And.intro hb X);have II:=Hj I;have hsz:=str_size' (k j).nm;obtain⟨q,hq⟩:∃q,min (k j).nm.length (m+1)=q:=⟨_,rfl⟩;have hq':min (((k j).nm.length:Nat):Int) ((m:Int)+1)=(q:Int):=by omega
    have S1:=Hj (HS.out.head hle hq);have HLT:=Hj hlt;have hHM:=HMM.out;have HW:=Hj (show sm (fun i=>(k i).wt) (j+1)=sm (fun i=>(k i).wt) j+(1+(k j).nm.length+(k j).lo.wt+(k j).hi.wt)from rfl);have ov0:IntKind.i64.wrap ((m:Int)+1)=(m:Int)+1:=by rw[IntKind.wrap_i64];omega
    have ov1:IntKind.i64.wrap ((x:Int)+1)=(x:Int)+1:=by rw[IntKind.wrap_i64];omega
    have ov2:IntKind.i64.wrap ((x:Int)+1+(q:Int))=((x+1+q:Nat):Int):=by rw[IntKind.wrap_i64];omega
    obtain⟨x1,hx1⟩:∃x1,x+1+q=x1:=⟨_,rfl⟩;have hx1':((x+1+q:Nat):Int)=(x1:Int):=by omega
    rw[hx1']at ov2;rw[hx1]at S1;clear X I hb hle hlt hq hx1 hx1' c2 c3;go_upto_region 6 with fail;have HX1:Hid (x1≤200002):=by have:=S1.out.1;have:=HMM.out;show _≤_;omega
    by_cases h1:x1≤m
    ·have y1:(x1:Int)≤(m:Int):=by omega
     have XC:=XX.out.2;have d6:=XC.c6;have d7:=XC.c7;have d8:=XC.c8;have d9:=XC.c9;have d10:=XC.c10;have d11:=XC.c11;have d12:=XC.c12;clear XC;have C1:=Hj (gWgX_any B (k j).lo (m-x1) wr II.out.2.1 (Nat.le_trans HB.out BEL.out.size) (by have:=HMM.out;omega));have os1:IntKind.i64.wrap ((m:Int)-(x1:Int))=((m-x1:Nat):Int):=by rw[IntKind.wrap_i64];have:=HMM.out;omega
     have HL1:=Hj h1;clear h1;go_wp2_with fail;refine C1.out.mono ?_;rintro e w1 ⟨⟨y,rfl,hy⟩,hb⟩;have S2:=Hj (S1.out.add HL1.out hy);have ov:IntKind.i64.wrap ((x1:Int)+(y:Int))=((x1+y:Nat):Int):=by rw[IntKind.wrap_i64];have:=hy.1;have:=HX1.out;have:=HMM.out;omega
     have BEL1:=Hj (BEL.out.trans (hb.mono BEL.out.size));have BEL1':Hid (Below wr.heap.size wr w1):=hb;obtain⟨x2,hx⟩:∃z,x1+y=z:=⟨_,rfl⟩;have hx':((x1+y:Nat):Int)=(x2:Int):=by omega
     rw[hx']at ov;rw[hx]at S2;go_upto_region 8 with fail;clear hy hb hx hx' os1 y1 ov C1 d2 hsz hq' ov0 ov1 ov2 c1 d6 d7 d8 d9 d10 d11 d12;have HX2:Hid (x2≤200002):=by have:=S2.out.1;have:=HMM.out;show _≤_;omega
     by_cases h2:x2≤m
     ·have y2:(x2:Int)≤(m:Int):=by omega
      have XC:=XX.out.2.below XX.out.1 BEL1'.out (Nat.le_trans HB.out BEL.out.size);have c1:=(p_cells ((BEL1'.out.block _ (Array.getElem?_eq_some_iff.1 HP.out).1).trans HP.out)).2.1;dsimp only at c1;have d13:=XC.c13;have d14:=XC.c14;have d15:=XC.c15;have d16:=XC.c16;have d17:=XC.c17;have d18:=XC.c18;have d19:=XC.c19;clear XC;have C2:=Hj (gWgX_any B (k j).hi (m-x2) w1 (II.out.2.2.below BEL1'.out (Nat.le_trans HB.out BEL.out.size)) (Nat.le_trans HB.out BEL1.out.size) (by have:=HMM.out;omega));have os2:IntKind.i64.wrap ((m:Int)-(x2:Int))=((m-x2:Nat):Int):=by rw[IntKind.wrap_i64];have:=HMM.out;omega
      have HL2:=Hj h2;clear h2;go_wp2_with fail;refine C2.out.mono ?_;rintro e w2 ⟨⟨y,rfl,hy⟩,hb⟩;have S3:=Hj (S2.out.add HL2.out hy);have ov:IntKind.i64.wrap ((x2:Int)+(y:Int))=((x2+y:Nat):Int):=by rw[IntKind.wrap_i64];have:=hy.1;have:=HX2.out;have:=HMM.out;omega
      have BEL2:=Hj (BEL1.out.trans (hb.mono BEL1.out.size));have BEL2':=Hj (BEL1'.out.trans (hb.mono BEL1'.out.size));obtain⟨x3,hx⟩:∃z,x2+y=z:=⟨_,rfl⟩;have hx':((x2+y:Nat):Int)=(x3:Int):=by omega
      rw[hx']at ov;rw[hx]at S3;clear hy hb hx hx' C2;go_wp2_with fail
      go_roundg (n-(j+1))
      case measure=>have:=HJ.out;have:=HLT.out;omega
      case rel=>exact⟨j+1,x3,by go_num,rfl,⟨rfl,HLT.out⟩,by have:=S3.out;rw[HW.out];rwa [show sm (fun i=>(k i).wt) j+(1+(k j).nm.length)+(k j).lo.wt+(k j).hi.wt=sm (fun i=>(k i).wt) j+(1+(k j).nm.length+(k j).lo.wt+(k j).hi.wt) by omega]at this,HBw.out.trans (BEL2'.out.mono HBw.out.size)⟩
     ·have y2:¬(x2:Int)≤(m:Int):=by omega
      have HL2:=Hj h2;clear h2;go_wp2_with fail
      go_roundg (n-(j+1))
      case measure=>have:=HJ.out;have:=HLT.out;omega
      case rel=>exact⟨j+1,x2,by go_num,rfl,⟨rfl,HLT.out⟩,S2.out.more (by have:=HL2.out;omega) (by rw[HW.out];omega),HBw.out.trans (BEL1'.out.mono HBw.out.size)⟩
    ·have y1:¬(x1:Int)≤(m:Int):=by omega
     have HL1:=Hj h1;clear h1 d2 hsz hq' ov0 ov1 ov2;go_wp2_with fail
     go_roundg (n-(j+1))
     case measure=>have:=HJ.out;have:=HLT.out;omega
     case rel=>exact⟨j+1,x1,by go_num,rfl,⟨rfl,HLT.out⟩,S1.out.more (by have:=HL1.out;omega) (by rw[HW.out];omega),HBw.out⟩
   ·have z1:¬(x:Int)≤(m:Int):=by omega
    have SN:=Hj (HS.out.more (u:=sm (fun i=>(k i).wt) n) (by omega) (sm_le (by omega)));clear hlt;have R:=Hj (SN.out.more (u:=(⟨tk,⟨ao,n,c⟩,k,is,ki,ss,ks⟩:Pr).wt) (by omega) (by unfold Pr.wt;dsimp only;omega));clear hle c2 c3;go_wp2_with fail;go_ret;exact⟨⟨x,rfl,R.out⟩,BEL.out⟩
  ·obtain rfl:j=n:=by have:=HJ.out;omega
   have z0:¬(j:Int)<(j:Int):=by omega
   have SN:=HS;clear hlt;have HX:Hid (x≤200002):=hxb;clear hxb
   by_cases hle:x≤m
   ·have z1:(x:Int)≤(m:Int):=by omega
    have C1:=Hj (gWgS_any B is ki (m-x) wr (I1.out.below BEL.out HB.out) (Nat.le_trans HB.out BEL.out.size) (by have:=HMM.out;omega));have os1:IntKind.i64.wrap ((m:Int)-(x:Int))=((m-x:Nat):Int):=by rw[IntKind.wrap_i64];have:=HMM.out;omega
    have HL1:=Hj hle;clear hle;go_wp2_with fail;refine C1.out.mono ?_;rintro e w1 ⟨⟨y,rfl,hy⟩,hb⟩;have S1:=Hj (SN.out.add HL1.out hy);have ov:IntKind.i64.wrap ((x:Int)+(y:Int))=((x+y:Nat):Int):=by rw[IntKind.wrap_i64];have:=hy.1;have:=HX.out;have:=HMM.out;omega
    have BEL1:=Hj (BEL.out.trans (hb.mono BEL.out.size));have c3:=(p_cells ((hb.block _ (Array.getElem?_eq_some_iff.1 HP.out).1).trans HP.out)).2.2.2;dsimp only at c3;obtain⟨x2,hx⟩:∃z,x+y=z:=⟨_,rfl⟩;have hx':((x+y:Nat):Int)=(x2:Int):=by omega
    rw[hx']at ov;rw[hx]at S1;go_upto_region 12 with fail;clear hy hb hx hx' os1 z1 ov C1 c1 c2;have HX2:Hid (x2≤200002):=by have:=S1.out.1;have:=HMM.out;show _≤_;omega
    by_cases h2:x2≤m
    ·have z1:(x2:Int)≤(m:Int):=by omega
     have C1:=Hj (gWgS_any B ss ks (m-x2) w1 (I2.out.below BEL1.out HB.out) (Nat.le_trans HB.out BEL1.out.size) (by have:=HMM.out;omega));have os1:IntKind.i64.wrap ((m:Int)-(x2:Int))=((m-x2:Nat):Int):=by rw[IntKind.wrap_i64];have:=HMM.out;omega
     have HL2:=Hj h2;clear h2;go_wp2_with fail;refine C1.out.mono ?_;rintro e w2 ⟨⟨y,rfl,hy⟩,hb⟩;have S2:=Hj (S1.out.add HL2.out hy);have ov:IntKind.i64.wrap ((x2:Int)+(y:Int))=((x2+y:Nat):Int):=by rw[IntKind.wrap_i64];have:=hy.1;have:=HX2.out;have:=HMM.out;omega
     have BEL2:=Hj (BEL1.out.trans (hb.mono BEL1.out.size));clear hy hb;go_wp2_with fail;go_ret;exact⟨⟨x2+y,by simp,S2.out⟩,BEL2.out⟩
    ·have z1:¬(x2:Int)≤(m:Int):=by omega
     have R:=Hj (S1.out.more (u:=(⟨tk,⟨ao,j,c⟩,k,is,ki,ss,ks⟩:Pr).wt) (by omega) (by unfold Pr.wt;dsimp only;omega));clear h2;go_wp2_with fail;go_ret;exact⟨⟨x2,rfl,R.out⟩,BEL1.out⟩
   ·have z1:¬(x:Int)≤(m:Int):=by omega
    have R:=Hj (SN.out.more (u:=(⟨tk,⟨ao,j,c⟩,k,is,ki,ss,ks⟩:Pr).wt) (by omega) (by unfold Pr.wt;dsimp only;omega));clear hle c2 c3;go_wp2_with fail;go_ret;exact⟨⟨x,rfl,R.out⟩,BEL.out⟩
end Go.Proofs.YtkbicfffokegeaaGreatDoor
namespace Go.Proofs.YtkbicfffokegeaaGreatDoor
set_option maxHeartbeats 16000000
open Go.RowKit Go.Maps
set_option maxRecDepth 100000
theorem Sat.small12 {t m x:Nat}(h:Sat t m x)(hx:x≤m):t≤m:=by
 rcases Nat.lt_or_ge m t with g|g
 ·have:=h.2.2 g;omega
 ·exact g
theorem Pr.In.up12 {w:World}{p:Pr}{B B':Nat}(h:p.In B w)(hB:B≤B'):p.In B' w:=⟨h.1,h.2.1.mono (fun _ _=>rfl) hB,h.2.2.1.mono (fun _ _=>rfl) hB,h.2.2.2.mono (fun _ _=>rfl) hB⟩
end Go.Proofs.YtkbicfffokegeaaGreatDoor
namespace Go.Proofs.YtkbicfffokegeaaGreatDoor
set_option maxHeartbeats 16000000
open Go.RowKit
set_option maxRecDepth 100000
theorem tw_allU (p:UInt8→Bool):∀l:List UInt8,(l.takeWhile p).all p=true
 | []=>rfl
 | b::r=>by
  rw[List.takeWhile_cons]
  by_cases c:p b=true
  ·rw[if_pos c,List.all_cons,c,tw_allU p r];rfl
  ·rw[if_neg c];rfl
theorem us_kw (l:List UInt8):kwS.contains (us l)=false:=by
 have h:∀k∈kwS,k.getLast? ≠ some 95:=by decide
 cases hc:kwS.contains (us l) with
 | false=>rfl
 | true=>
  have hm:=List.contains_iff_mem.1 hc;exact absurd (by unfold us;rw[List.getLast?_append];rfl) (h _ hm)
theorem us_nm {l:List UInt8}(h:nmL l=l.length)(h0:l≠[]):nmL (us l)=(us l).length:=by
 cases l with
 | nil=>exact absurd rfl h0
 | cons b r=>
  rw[nmL_cons]at h
  by_cases c:isAl b=true
  ·rw[if_pos c,List.length_cons]at h
   have hr:r.takeWhile isAn=r:=by
    have h1:(r.takeWhile isAn).length=r.length:=by omega
    exact(List.takeWhile_prefix isAn).eq_of_length h1
   have hall:∀x∈r,isAn x=true:=fun x hx=>by
    rw[←hr]at hx;exact List.all_eq_true.1 (tw_allU _ _) x hx
   show nmL (b::(r++[95]))=_;rw[nmL_cons,if_pos c]
   have e:(r++[95]).takeWhile isAn=r++[95]:=by
    rw[List.takeWhile_append_of_pos hall];rfl
   rw[e];unfold us;simp only[List.length_append,List.length_cons,List.length_nil];omega
  ·rw[if_neg c]at h
   simp at h
theorem us_isn {l:List UInt8}(h:isnV l=true)(hl:l.length<32):isnV (us l)=true:=by
 unfold isnV at h ⊢;simp only[Bool.and_eq_true,Bool.not_eq_true',decide_eq_true_eq]at h ⊢;obtain⟨h1,h2,h3,h4⟩:=h;have h0:l≠[]:=by rintro rfl;cases h1
 refine⟨by unfold us;cases l<;>rfl,by unfold us;rw[List.length_append];show l.length+1≤32;omega,us_nm h3 h0,us_kw l⟩
end Go.Proofs.YtkbicfffokegeaaGreatDoor
namespace Go.Proofs.YtkbicfffokegeaaGreatDoor
set_option maxHeartbeats 16000000
open Go.RowKit Go.Maps
set_option maxRecDepth 100000
section
variable {o:Oper} {a:Act} {w:World} {K:Act→World→Prop} {Q:Exit→Act→World→Prop}
theorem st_prw (t:Int)(d i s:Sl)(g:Nat)(old:Array Value)(hg:Blk w g 25 old)(hold:old.size=4)(x y:Operand)(ho:o.op=.store 25 x y)(hx:a.eval x=.pointer (some ⟨g,0,none⟩))(hy:a.eval y=.agg (prvs t d i s).toArray)
  (h:K (a.put o.dst undef) (w.setRow g (prvs t d i s).toArray)):o.wp Tryz.prog a w K Q:=
 wp_store_row 25 x y ho g (prvs t d i s).toArray hx hy 25 old hg (by kernel_rfl) hold (by simp[prvs,Value.oneCell']) h
end
def Dq (g L:Nat):Nat→Prop:=fun k=>L≤k∧k≠g
theorem XB.dq1 {L M g:Nat}{S:Sl}{K:Nat→St}{w:World}(h:XB (Fro M) S K w)(hL:L≤M)(hg:g<M):XB (Dq g L) S K w:=h.imp fun k _ (x:M≤k)=>⟨Nat.le_trans hL x,by omega⟩
theorem XB.dq2 {L M g:Nat}{S:Sl}{K:Nat→St}{w:World}(h:XB (Fro M) S K w)(hL:L≤M)(hg:w.heap.size≤g):XB (Dq g L) S K w:=h.imp fun k hk (x:M≤k)=>⟨Nat.le_trans hL x,by omega⟩
theorem XB.dqf {L g:Nat}{S:Sl}{K:Nat→St}{w w':World}(h:XB (Dq g L) S K w)(f:Fx (On g) w.heap.size w w'):XB (Dq g L) S K w':=h.fx f (fun k (x:k=g) y=>y.2 x)
theorem XB.out12 {D:Nat→Prop}{S:Sl}{K:Nat→St}{w:World}(h:XB D S K w):SsIn w.heap.size w S K:=SsIn.stay h (stay_up D w) (Nat.le_refl _)
theorem own_dd {w:World}{L n:Nat}{v:Value}{K:Nat→De}(h:w.ownsRow L 44 20 v n (rowD K n))(hK:∀i,i<n→(K i).In w.heap.size w):∃S:Sl,v=S.val∧S.n=n∧DsIn w.heap.size w S K:=by
 rcases h.2 with⟨rfl,rfl⟩|⟨g,cap,cur,rfl,hb,hg,hn,hc,hcs,ht⟩
 ·exact⟨⟨none,0,0⟩,rfl,rfl,sl_no,(fun a ha=>by cases ha),fun i hi=>absurd hi (Nat.not_lt_zero i)⟩
 ·refine⟨⟨some ⟨g,0,none⟩,n,cap⟩,rfl,rfl,⟨hn,hc,fun e=>by cases e⟩,?_,hK⟩
  intro a ha i hi;cases ha;have hi:i<n:=hi;exact⟨(Array.getElem?_eq_some_iff.1 hg).1,fun j u hu=>h.cells (g:=g) rfl _ _ (rowD_at hi hu)⟩
def mvE (y:Int)(e:Ex):Ex:=.mk ⟨e.h.op,y,e.h.bo,e.h.it,e.h.fl,e.h.nm,e.h.s⟩ e.k
def mvD (y:Int)(d:De):De:=⟨y,d.inp,d.nm,d.ty,d.len,d.rg,mvE y d.lo,mvE y d.hi⟩
theorem mvE_in {y:Int}(y0:-9223372036854775808≤y)(y1:y≤9223372036854775807){B:Nat}{w:World}{e:Ex}(h:e.In B w):(mvE y e).In B w:=
 ⟨⟨h.ok.op0,h.ok.op1,y0,y1,h.ok.it0,h.ok.it1,h.ok.fl,h.ok.nm,h.ok.s⟩,h.xs.2.1,h.xs.2.2⟩
theorem mvD_in {y:Int}(y0:-9223372036854775808≤y)(y1:y≤9223372036854775807){B:Nat}{w:World}{d:De}(h:d.In B w):(mvD y d).In B w:=
 ⟨⟨y0,y1,h.1.ty0,h.1.ty1,h.1.len0,h.1.len1,h.1.nm⟩,mvE_in y0 y1 h.2.1,mvE_in y0 y1 h.2.2⟩
theorem mvE_same (y:Int)(e:Ex):e.same (mvE y e)=true:=Ex.same_iff.2 ⟨rfl,rfl,rfl,rfl,rfl,rfl,fun _ _=>Ex.refl _⟩
theorem mvD_same (y:Int)(d:De):d.same (mvD y d)=true:=De.same_iff.2 ⟨rfl,rfl,rfl,rfl,rfl,mvE_same y _,mvE_same y _⟩
theorem places_say {p:Pr}{y:Int}{S:Sl}{SI SS:Sl}{KI KS:Nat→St}(hs:S.n=p.ds.n)(hi:SI.n=p.is.n)(hS:SS.n=p.ss.n)(ri:∀i,i<p.is.n→(p.i i).same (KI i)=true∧(KI i).allp y)(rs:∀i,i<p.ss.n→(p.s i).same (KS i)=true∧(KS i).allp y) :
  p.same ⟨p.ticks,S,fun i=>mvD y (p.d i),SI,KI,SS,KS⟩=true ∧
  (⟨p.ticks,S,fun i=>mvD y (p.d i),SI,KI,SS,KS⟩:Pr).ck isnV raN=if 1≤p.ticks∧p.ticks≤2147483647 then(p.ck isnV raN).mv y else .no 123 0:=by
 have h:p.same ⟨p.ticks,S,fun i=>mvD y (p.d i),SI,KI,SS,KS⟩=true:=
  Pr.same_iff.2 ⟨rfl,sameD_iff.2 ⟨hs.symm,fun i _=>mvD_same y _⟩,sameS_iff.2 ⟨hi.symm,fun i h=>(ri i h).1⟩,sameS_iff.2 ⟨hS.symm,fun i h=>(rs i h).1⟩⟩
 exact⟨h,Pr.ck_mv (fun a a' h=>raN_same h) h (fun j _=>rfl) (fun j hj=>(ri j (by rw[←hi];exact hj)).2) (fun j hj=>(rs j (by rw[←hS];exact hj)).2)⟩
def usD (d:De):De:=⟨d.ps,d.inp,us d.nm,d.ty,d.len,d.rg,d.lo,d.hi⟩
theorem usD_in {B:Nat}{w:World}{d:De}(hn:d.nm.length≤1000000)(h:d.In B w):(usD d).In B w:=
 ⟨⟨h.1.ps0,h.1.ps1,h.1.ty0,h.1.ty1,h.1.len0,h.1.len1,(by show(us d.nm).length≤maxLen;unfold us maxLen;rw[List.length_append];show d.nm.length+1≤_;omega)⟩,h.2.1,h.2.2⟩
theorem us_len (l:List UInt8):(us l).length=l.length+1:=by unfold us;rw[List.length_append];rfl
theorem cal_wt (e:Ex):e.cal.wt≤2*e.wt:=by
 induction e using Ex.ind with
 | H e ih=>
  cases e with
  | no=>decide
  | mk h k=>
   have h1:sm (fun i=>((k i).cal).wt) h.s.n≤sm (fun i=>(k i).wt*2) h.s.n:=sm_mono fun i hi=>by have:=ih i hi;show((k i).cal).wt≤(k i).wt*2;have h2:((Ex.mk h k).k i)=k i:=rfl;rw[h2]at this;omega
   rw[sm_mul]at h1;show 1+(if h.op=4 then us h.nm else h.nm).length+sm (fun i=>((k i).cal).wt) h.s.n≤2*(1+h.nm.length+sm (fun i=>(k i).wt) h.s.n);split
   ·rw[us_len];omega
   ·omega
theorem nmd_wt (s:St):s.nmd.wt≤2*s.wt:=by
 induction s using St.ind with
 | H s it il=>
  cases s with
  | no=>decide
  | mk h x e t l=>
   have hx:sm (fun i=>((x i).cal).wt) h.xs.n≤sm (fun i=>(x i).wt*2) h.xs.n:=sm_mono fun i _=>by have:=cal_wt (x i);omega
   have ht:sm (fun i=>((t i).nmd).wt) h.ts.n≤sm (fun i=>(t i).wt*2) h.ts.n:=sm_mono fun i hi=>by have:=it i hi;have h2:(St.mk h x e t l).t i=t i:=rfl;rw[h2]at this;omega
   have hl:sm (fun i=>((l i).nmd).wt) h.es.n≤sm (fun i=>(l i).wt*2) h.es.n:=sm_mono fun i hi=>by have:=il i hi;have h2:(St.mk h x e t l).l i=l i:=rfl;rw[h2]at this;omega
   have he:=cal_wt e;rw[sm_mul]at hx ht hl;show 1+(us h.nm).length+sm (fun i=>((x i).cal).wt) h.xs.n+e.cal.wt+sm (fun i=>((t i).nmd).wt) h.ts.n+sm (fun i=>((l i).nmd).wt) h.es.n≤2*(1+h.nm.length+sm (fun i=>(x i).wt) h.xs.n+e.wt+sm (fun i=>(t i).wt) h.ts.n+sm (fun i=>(l i).wt) h.es.n);rw[us_len];omega
theorem Sh.rfl12 (S:Sc):Sh S S:=⟨rfl,fun _ _=>⟨rfl,rfl,rfl,rfl⟩,rfl,rfl⟩
theorem renames_say {p:Pr}{S:Sl}{SI SS:Sl}{KI KS:Nat→St}(hs:S.n=p.ds.n)(hi:SI.n=p.is.n)(hS:SS.n=p.ss.n)(hd:∀i,i<p.ds.n→isnV (p.d i).nm=true∧(p.d i).nm.length<32)(ri:∀i,i<p.is.n→(KI i).eqv (p.i i).nmd)(rs:∀i,i<p.ss.n→(KS i).eqv (p.s i).nmd)
  (pi:∀i,i<p.is.n→(p.i i).shl isnV) (ps:∀i,i<p.ss.n→(p.s i).shl isnV) :
  (⟨p.ticks,S,fun i=>usD (p.d i),SI,KI,SS,KS⟩:Pr).ck isnV raN=p.ck isnV raN:=
 Pr.ck_us ⟨rfl,hs.symm,fun _ _=>rfl,fun i h=>⟨(hd i h).1,us_isn (hd i h).1 (hd i h).2,rfl⟩,fun _ _=>⟨rfl,rfl,rfl,rfl⟩,hi.symm,fun j h=>⟨pi j h,fun S=>(St.ck_eqv (Sh.rfl12 S) (ri j h)).symm⟩,hS.symm,fun j h=>⟨ps j h,fun S=>(St.ck_eqv (Sh.rfl12 S) (rs j h)).symm⟩⟩
theorem renames_wt {p:Pr}{S:Sl}{SI SS:Sl}{KI KS:Nat→St}(hs:S.n=p.ds.n)(hi:SI.n=p.is.n)(hS:SS.n=p.ss.n)(ri:∀i,i<p.is.n→(KI i).eqv (p.i i).nmd)(rs:∀i,i<p.ss.n→(KS i).eqv (p.s i).nmd) :
  (⟨p.ticks,S,fun i=>usD (p.d i),SI,KI,SS,KS⟩:Pr).wt≤2*p.wt:=by
 have h1:sm (fun i=>(usD (p.d i)).wt) p.ds.n≤sm (fun i=>(p.d i).wt*2) p.ds.n:=sm_mono fun i _=>by
  show 1+(us (p.d i).nm).length+(p.d i).lo.wt+(p.d i).hi.wt≤(1+(p.d i).nm.length+(p.d i).lo.wt+(p.d i).hi.wt)*2;rw[us_len];omega
 have h2:sm (fun i=>(KI i).wt) p.is.n≤sm (fun i=>(p.i i).wt*2) p.is.n:=sm_mono fun i h=>by have h4:=nmd_wt (p.i i);have h5:=St.same_wt12 (St.eqv_same (ri i h));omega
 have h3:sm (fun i=>(KS i).wt) p.ss.n≤sm (fun i=>(p.s i).wt*2) p.ss.n:=sm_mono fun i h=>by have h4:=nmd_wt (p.s i);have h5:=St.same_wt12 (St.eqv_same (rs i h));omega
 rw[sm_mul]at h1 h2 h3;show sm (fun i=>(usD (p.d i)).wt) S.n+sm (fun i=>(KI i).wt) SI.n+sm (fun i=>(KS i).wt) SS.n≤2*(sm (fun i=>(p.d i).wt) p.ds.n+sm (fun i=>(p.i i).wt) p.is.n+sm (fun i=>(p.s i).wt) p.ss.n);rw[hs,hi,hS];omega
end Go.Proofs.YtkbicfffokegeaaGreatDoor
