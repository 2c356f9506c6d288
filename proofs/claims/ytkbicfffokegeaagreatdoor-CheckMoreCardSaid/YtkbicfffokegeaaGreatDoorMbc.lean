/-
  Whatever program and statement are handed in, CheckMore answers true. (part 29 of 30) Conditions: none beside what the card ties.
-/
import Derived.Test.YtkbicfffokegeaaGreatDoorMba
import Derived.Test.YtkbicfffokegeaaGreatDoorMbb
import Derived.Test.YtkbicfffokegeaaGreatDoorMag
import Derived.Test.YtkbicfffokegeaaGreatDoorMai
import Derived.ProofKit
import Derived.OpenShut
import Derived.ChangeOld
import Derived.LaidMore
import Derived.Stop.Joined
import Derived.Lib.SmallJoins
import Derived.Test.YtkbicfffokegeaaGreatDoorMaf
import Derived.Deep.Slices
import Derived.Deep.Fields
import Derived.ChangeSame
import Derived.Lay
import Derived.HandedShaped
import Derived.LaidLaws
import Derived.Shelf.Vars
import Derived.Test.YtkbicfffokegeaaGreatDoorMam
import Derived.Test.YtkbicfffokegeaaGreatDoorMab
namespace Go.Proofs.YtkbicfffokegeaaGreatDoor
set_option maxHeartbeats 16000000
open Go.RowKit Go.Maps
set_option maxRecDepth 100000
theorem Sat.small12 {t m x:Nat}(h:Sat t m x)(hx:x≤m):t≤m:=by
 rcases Nat.lt_or_ge m t with g|g
 ·have:=h.2.2 g;omega
 ·exact g
theorem Pr.In.up12 {w:World}{p:Pr}{B B':Nat}(h:p.In B w)(hB:B≤B'):p.In B' w:=⟨h.1,h.2.1.mono (fun _ _=>rfl) hB,h.2.2.1.mono (fun _ _=>rfl) hB,h.2.2.2.mono (fun _ _=>rfl) hB⟩
theorem rowC_get {K:Nat→St}{n j:Nat}{u:Value}(h:(rowC K n)[j]? = some u):∃i r,i<n∧j=i*15+r∧(stvs (K i).h (K i).e.h)[r]? = some u:=by
 induction n with
 | zero=>simp[rowC]at h
 | succ n ih=>
  rw[rowC]at h
  by_cases c:j<n*15
  ·rw[List.getElem?_append_left (by rw[rowC_len];exact c)]at h
   obtain⟨i,r,h1,h2,h3⟩:=ih h;exact⟨i,r,by omega,h2,h3⟩
  ·rw[List.getElem?_append_right (by rw[rowC_len];omega),rowC_len]at h
   exact⟨n,j-n*15,by omega,by omega,h⟩
theorem rowC_one {K:Nat→St}{n:Nat}:∀u∈rowC K n,u.oneCell'=true:=by
 induction n with
 | zero=>intro u hu;cases hu
 | succ n ih=>
  intro u hu;rw[rowC]at hu;rcases List.mem_append.1 hu with h|h
  ·exact ih u h
  ·have g:∀u∈stvs (K n).h (K n).e.h,u.oneCell'=true:=by simp[stvs,Value.oneCell']
   exact g u h
theorem wpList_app_row12 {w:World}{ops:Array Oper}{rest:List Oper}{o:Oper}{a:Act}{Q:Exit→Act→World→Prop}(hgd:o.guard=none)(s x:Operand)
  (ho:o.op=.call { callee:=.builtin .append,args:=#[s,x],argTypes:=#[23,23] }) (B:Nat) (S:Sl) (K:Nat→St) (hs:a.eval s=.slice none 0 0) (hx:a.eval x=.slice S.ao S.n S.c) (hI:SsIn B w S K) (hn:S.n≤100000)
  (h:∀v' w',w'.ownsRow w.heap.size 48 15 v' S.n (rowC K S.n)→Below w.heap.size w w'→wpList Tryz.prog ops Q rest (a.put o.dst v') w'):wpList Tryz.prog ops Q (o::rest) a w:=by
 obtain⟨i0,hi,hz0,hz1,hz2⟩:=info_parts stm_info;obtain⟨ao,n,c⟩:=S;dsimp only at hn hx h ⊢
 cases ao with
 | none=>
  obtain rfl:n=0:=hI.1.2.2 rfl;refine wpList_plain hgd fun K' hK=>?_
  have hr:(Builtin.append_ #[23,23] o.type #[.slice none 0 0,.slice none 0 c]).run Tryz.prog w=.ok (.slice none 0 0) w:=by
   simp[Builtin.append_,run_underlying Tryz.underlying23,sizeOf,typeInfo,hi,Builtin.lenOf,Builtin.firstCells]
  unfold Oper.wp execOp;simp only[ho,resolve,invoke,builtin,Sem.run_bind,Sem.run_pure,Result.andThen_ok,List.map_toArray,List.map_cons,List.map_nil,hs,hx,hr];exact hK _ _ (h _ _ (World.ownsRow_nil w w.heap.size 48 15) (Below.refl _ _))
 | some ad=>
  refine wpList_append_moved w hgd s x 23 ho w.heap.size 48 i0 _ 15 184 Tryz.underlying23 hi hz0 hz1 hz2 rfl (by decide) (.slice none 0 0) 0 [] hs (World.ownsRow_nil w w.heap.size 48 15) ad n c (rowC K n) hx (rowC_len K n) ?_ rowC_one (by unfold maxLen;omega) (by omega) (Nat.le_refl _) ?_
  ·intro j u hu
   obtain⟨i,r,h1,h2,h3⟩:=rowC_get hu;rw[h2];exact(hI.2.1 ad rfl i h1).2 r u h3
  ·intro v' w' own gr mv
   rw[List.nil_append,Nat.zero_add]at own;exact h v' w' own ((gr_fx gr).bel (fun k hk x=>by cases x))
theorem own_ss {w:World}{L n:Nat}{v:Value}{K:Nat→St}(h:w.ownsRow L 48 15 v n (rowC K n))(hK:∀i,i<n→(K i).In w.heap.size w):∃S:Sl,v=S.val∧S.n=n∧SsIn w.heap.size w S K:=by
 rcases h.2 with⟨rfl,rfl⟩|⟨g,cap,cur,rfl,hb,hg,hn,hc,hcs,ht⟩
 ·exact⟨⟨none,0,0⟩,rfl,rfl,sl_no,(fun a ha=>by cases ha),fun i hi=>absurd hi (Nat.not_lt_zero i)⟩
 ·refine⟨⟨some ⟨g,0,none⟩,n,cap⟩,rfl,rfl,⟨hn,hc,fun e=>by cases e⟩,?_,hK⟩
  intro a ha i hi;cases ha;have hi:i<n:=hi;exact⟨(Array.getElem?_eq_some_iff.1 hg).1,fun j u hu=>h.cells (g:=g) rfl _ _ (rowC_at hi hu)⟩
def mtD (d:De)(nm:List UInt8)(t f:Int):Bool:=(d.nm == nm) && !d.inp && (d.len == 0) && (d.ty == t) && (f == 0)
def rtD (d:Nat→De)(nm:List UInt8)(t f:Int):Nat→Bool
 | 0=>false
 | n+1=>rtD d nm t f n || mtD (d n) nm t f
theorem rtD_iff {d:Nat→De}{nm:List UInt8}{t f:Int}{n:Nat}:rtD d nm t f n=true↔∃i,i<n∧(d i).nm=nm∧(d i).inp=false∧(d i).len=0∧(d i).ty=t∧f=0:=by
 induction n with
 | zero=>exact⟨fun h=>(by cases h),fun⟨i,h,_⟩=>absurd h (Nat.not_lt_zero i)⟩
 | succ n ih=>
  simp only[rtD,Bool.or_eq_true,ih];constructor
  ·rintro(⟨i,h,k⟩|h)
   ·exact⟨i,by omega,k⟩
   ·simp only[mtD,Bool.and_eq_true,beq_iff_eq,Bool.not_eq_true']at h
    obtain⟨⟨⟨⟨h1,h2⟩,h3⟩,h4⟩,h5⟩:=h;exact⟨n,Nat.lt_succ_self n,h1,h2,h3,h4,h5⟩
  ·rintro⟨i,h,h1,h2,h3,h4,h5⟩
   rcases Nat.lt_succ_iff_lt_or_eq.1 h with h'|rfl
   ·exact .inl ⟨i,h',h1,h2,h3,h4,h5⟩
   ·refine .inr ?_
    simp only[mtD,Bool.and_eq_true,beq_iff_eq,Bool.not_eq_true'];exact⟨⟨⟨⟨h1,h2⟩,h3⟩,h4⟩,h5⟩
theorem more_says {p q:Pr}{h:SH}{e:Ex}{n:Nat}(hp:p.ck isnV raN=.ok ())(tk:q.ticks=p.ticks)(dn:q.ds.n=p.ds.n)(iN:q.is.n=p.is.n)(ii:∀i,i<p.is.n→q.i i=p.i i)(sN:q.ss.n=p.ss.n+1)(si:∀i,i<p.ss.n→q.s i=p.s i)(sl:∀S,(q.s p.ss.n).ck isnV S=asgC S h (fun _=>.no) e)(hx:h.xs.n=0)
  (hd:q.d=p.d) (hn:n=p.ds.n) :
  ((q.ck isnV raN).er == 0)=rtD p.d h.nm ((e.ck ⟨p.ds.n,p.d,[],false⟩).va 0) (e.ck ⟨p.ds.n,p.d,[],false⟩).er n:=by
 subst hn;have M:=Pr.ck_more (nam:=isnV) (ran:=raN) (fun d h1 _=>(raN_len h1).1) hp tk dn iN ii sN si sl hx hd
 have NQ:(q.ck isnV raN).er=0↔q.ck isnV raN=.ok ():=by
  rw[nz_er (Pr.ck_nz q)];exact⟨fun⟨a,h⟩=>h,fun h=>⟨(),h⟩⟩
 have NE:=Ex.ck_nz ⟨p.ds.n,p.d,[],false⟩ e;rw[Bool.eq_iff_iff,rtD_iff,beq_iff_eq,NQ,M];constructor
 ·rintro⟨i,t,h1,h2,h3,h4,h5,h6⟩
  rw[h5];exact⟨i,h1,h2,h3,h4,h6,rfl⟩
 ·rintro⟨i,h1,h2,h3,h4,h5,h6⟩
  obtain⟨t,ht⟩:=(nz_er NE).1 h6;rw[ht]at h5;exact⟨i,t,h1,h2,h3,h4,ht,h5⟩
def newS (h:SH):SH:=⟨1,0,h.nm,⟨none,0,0⟩,0,0,⟨none,0,0⟩,⟨none,0,0⟩⟩
def newSt (s:St):St:=.mk (newS s.h) (fun _=>.no) s.e (fun _=>.no) (fun _=>.no)
theorem newSt_in {B:Nat}{w:World}{s:St}(h:s.In B w):(newSt s).In B w:=
 ⟨⟨(by show(0:Int)≤1;decide),(by show(1:Int)≤255;decide),(by show(-9223372036854775808:Int)≤0;decide),(by show(0:Int)≤9223372036854775807;decide),(by show(-2147483648:Int)≤0;decide),(by show(0:Int)≤2147483647;decide),(by show(-2147483648:Int)≤0;decide),(by show(0:Int)≤2147483647;decide),h.ok.nm,sl_no,sl_no,sl_no⟩,⟨sl_no,(fun a ha=>by cases ha),fun i hi=>absurd hi (Nat.not_lt_zero i)⟩,h.ex,(fun a ha=>by cases ha),(fun i hi=>absurd hi (Nat.not_lt_zero i)),(fun a ha=>by cases ha),fun i hi=>absurd hi (Nat.not_lt_zero i)⟩
theorem newSt_ck (s:St)(S:Sc):(newSt s).ck isnV S=asgC S (newS s.h) (fun _=>.no) s.e:=by
 rw[St.ck_eq];exact if_pos rfl
def moreP (p:Pr)(s:St)(S:Sl):Pr:=⟨p.ticks,p.ds,p.d,p.is,p.i,S,fun i=>if i<p.ss.n then p.s i else newSt s⟩
theorem lmore_walk (p:Pr)(s:St)(w:World)(hp:p.In w.heap.size w)(hs:s.In w.heap.size w)(hE:Env9 w) :
  Calls Tryz.prog 5 #[p.v,stv s.h s.e.h] w fun x w'=>x=.returned (.bool true)∧Below w.heap.size w w':=by
 have IP:=Hj hp;have IS:=Hj hs;have HE:=Hj hE;have B0:Hid (Below w.heap.size w (bx (bx w (pO p)) (sO s.h s.e.h))):=bx_bel (bx_bel (Below.refl _ _) (Nat.le_refl _) _) (Nat.le_refl _) _;have GP:Hid ((bx (bx w (pO p)) (sO s.h s.e.h)).heap[w.heap.size]? = some (pO p)):=keptO (bx_bel (Below.refl _ _) (Nat.le_refl _) _) (bx_new w (pO p))
 have GS:Hid ((bx (bx w (pO p)) (sO s.h s.e.h)).heap[w.heap.size+1]? = some (sO s.h s.e.h)):=by
  have:=bx_new (bx w (pO p)) (sO s.h s.e.h);rw[bx_size]at this;exact this
 have CW:=Hj fun(w':World) hI hB=>gWeigh_any p w.heap.size 1500 w' hI hB (by decide);have CX:=Hj fun(w':World) hI hB=>gWgX_any w.heap.size s.e 1500 w' hI hB (by decide);clear hp hs hE;show Calls Tryz.prog 5 #[.agg #[.int .i64 p.ticks,.slice p.ds.ao p.ds.n p.ds.c,.slice p.is.ao p.is.n p.is.c,.slice p.ss.ao p.ss.n p.ss.c],.agg #[.int .u8 s.h.kd,.int .i64 s.h.ps,.string ⟨s.h.nm.toArray⟩,.slice s.h.xs.ao s.h.xs.n s.h.xs.c,.int .u8 s.e.h.op,.int .i64 s.e.h.ps,.bool s.e.h.bo,.int .i32 s.e.h.it,.int .u64 s.e.h.fl,.string ⟨s.e.h.nm.toArray⟩,.slice s.e.h.s.ao s.e.h.s.n s.e.h.s.c,.int .i32 s.h.lo,.int .i32 s.h.hi,.slice s.h.ts.ao s.h.ts.n s.h.ts.c,.slice s.h.es.ao s.h.es.n s.h.es.c]] w _;go_enter Tryz.func5,Tryz.ntmps5;go_upto_region 1 with fail;rw[bx_p,bx_s];generalize bx (bx w (pO p)) (sO s.h s.e.h)=W at *;have WK:=Hj (works12_any W (HE.out.below B0.out));go_wp2_with fail;refine WK.out.mono ?_;rintro x w1 ⟨rfl,b1⟩;have B1:=Hj (bel_trans B0.out b1);have GP1:=Hj (keptO b1 GP.out);have GS1:=Hj (keptO b1 GS.out);obtain⟨a0,a1,a2,a3⟩:=p_cells GP1.out;clear b1 GP GS B0 WK;go_wp2_with fail;refine(CW.out _ (IP.out.below B1.out (Nat.le_refl _)) B1.out.size).mono ?_;rintro x w2 ⟨⟨n1,rfl,s1⟩,b2⟩
 have B2:=Hj (bel_trans B1.out b2);have GP2:=Hj (keptO b2 GP1.out);have GS2:=Hj (keptO b2 GS1.out);have S1:=Hj s1;clear b2 GP1 GS1 B1 s1 CW a0 a1 a2 a3
 by_cases h1:n1≤1500
 case neg=>
  have z1:(1500:Int)<(n1:Int):=by omega
  go_wp2_with fail;go_ret;exact⟨rfl,B2.out⟩
 case pos=>
  have z1:¬(1500:Int)<(n1:Int):=by omega
  have P1:=Hj (S1.out.small12 h1);clear h1 S1;have D:=s_cells GS2.out;have c4:=D.c4;have c5:=D.c5;have c6:=D.c6;have c7:=D.c7;have c8:=D.c8;have c9:=D.c9;have c10:=D.c10;clear D;go_wp2_with fail;refine(CX.out _ (IS.out.ex.below B2.out (Nat.le_refl _)) B2.out.size).mono ?_;rintro x w3 ⟨⟨n2,rfl,s2⟩,b3⟩;have B3:=Hj (bel_trans B2.out b3);have GP3:=Hj (keptO b3 GP2.out);have GS3:=Hj (keptO b3 GS2.out);have S2:=Hj s2;clear b3 GP2 GS2 B2 s2 CX c4 c5 c6 c7 c8 c9 c10
  by_cases h2:n2≤1500
  case neg=>
   have z2:(1500:Int)<(n2:Int):=by omega
   go_wp2_with fail;go_ret;exact⟨rfl,B3.out⟩
  case pos=>
   have z2:¬(1500:Int)<(n2:Int):=by omega
   have P2:=Hj (S2.out.small12 h2);clear h2 S2;obtain⟨a0,a1,a2,a3⟩:=p_cells GP3.out;have CC:=Hj (ccCheck_any p w3 (HE.out.below B3.out) ((IP.out.below B3.out (Nat.le_refl _)).up12 B3.out.size) (Nat.le_trans P1.out (by decide)));go_wp2_with fail;refine CC.out.mono ?_;rintro x w4 ⟨rfl,b4⟩;have B4:=Hj (bel_trans B3.out b4);have GP4:=Hj (keptO b4 GP3.out);have GS4:=Hj (keptO b4 GS3.out);clear b4 GP3 GS3 B3 CC a0 a1 a2 a3;obtain⟨Z,hZ⟩:∃Z,p.ck isnV raN=Z:=⟨_,rfl⟩;have NZ:=Hj (Pr.ck_nz (nam:=isnV) (ran:=raN) p);rw[hZ]at NZ ⊢;have HZ:=Hj hZ;clear hZ
   cases Z with
   | no c pl=>
    have hb:(c != 0)=true:=by have:=NZ.out c pl rfl;simp;omega
    dsimp only[Ck.er,Ck.pl];go_wp2_with fail;go_ret;exact⟨rfl,B4.out⟩
   | ok u=>
    cases u;dsimp only[Ck.er,Ck.pl];clear NZ
    have NPS:Hid (p.ss.n≤1500):=by
     have h1:=wt_rows p.s p.ss.n;have h2:=P1.out;unfold Pr.wt at h2;show _≤_;omega
    obtain⟨a0,a1,a2,a3⟩:=p_cells GP4.out;have B5:=Hj (bx_bel B4.out (Nat.le_refl _) (pO p));have GP5:=Hj (keptO (bx_bel (Below.refl _ _) (Nat.le_refl _) (pO p)) GP4.out);have GS5:=Hj (keptO (bx_bel (Below.refl _ _) (Nat.le_refl _) (pO p)) GS4.out);have GQ5:=Hj (bx_new w4 (pO p));have SZ5:Hid ((bx w4 (pO p)).heap.size=w4.heap.size+1):=bx_size _ _;have LP4:Hid (w.heap.size+1<w4.heap.size):=(Array.getElem?_eq_some_iff.1 GS4.out).1;have LP5:Hid (w.heap.size<(bx w4 (pO p)).heap.size∧w.heap.size+1<(bx w4 (pO p)).heap.size∧w4.heap.size<(bx w4 (pO p)).heap.size):=by have h1:=LP4.out;rw[bx_size];show _∧_;omega
    go_upto_region 10 with fail;change (Code.region 10 _ _).wp _ _ _ (bx w4 (pO p));clear a0 a1 a2 a3 GP4 GS4;generalize bx w4 (pO p)=w5 at *;obtain⟨a0,a1,a2,a3⟩:=p_cells GP5.out;have IS5:=Hj (IP.out.below B5.out (Nat.le_refl _)).2.2.2
    go_upto_region 12 with(at_builtin;refine wpList_app_row12 rfl _ _ rfl w.heap.size p.ss p.s rfl rfl IS5.out (Nat.le_trans NPS.out (by decide)) ?_;intro v6 w6 own6 b6)
    obtain⟨A6,c6,rfl⟩:=own_form own6;have OW6:=Hj own6;have B6:=Hj (bel_trans B5.out b6);have GP6:=Hj (keptO b6 GP5.out);have GS6:=Hj (keptO b6 GS5.out);have GQ6:=Hj (keptO b6 GQ5.out);have SZ6:=Hj b6.size;clear own6 b6 GP5 GS5 GQ5 IS5 B5 a0 a1 a2 a3;have D:=s_cells GS6.out;have c2:=D.c2;have c4:=D.c4;have c5:=D.c5;have c6':=D.c6;have c7:=D.c7;have c8:=D.c8;have c9:=D.c9;have c10:=D.c10;clear D;obtain⟨i0,hi,hz0,hz1,hz2⟩:=info_parts stm_info;have HI0:=Hj (And.intro hi (And.intro hz0 (And.intro hz1 hz2)));clear hi hz0 hz1 hz2;have ONE:Hid (∀u∈stvs (newS s.h) s.e.h,u.oneCell'=true):=(by show ∀u∈stvs (newS s.h) s.e.h,u.oneCell'=true;simp[stvs,Value.oneCell'])
    go_upto_region 13 with(first
     | (refine bs_st (newS s.h) s.e.h rfl _ rfl rfl ?_;intro db w7 hdb ZB BA;have NW:=new_stm ZB.out)
     | (at_builtin;refine wpList_append_moved w7 rfl _ _ 23 rfl w5.heap.size 48 i0 _ 15 184 Tryz.underlying23 HI0.out.1 HI0.out.2.1 HI0.out.2.2.1 HI0.out.2.2.2 rfl (by decide) (.slice A6 p.ss.n c6) p.ss.n _ rfl (own_belowK OW6.out BA.out) ⟨db,0,none⟩ 1 1 (stvs (newS s.h) s.e.h) rfl rfl NW ONE.out (by have:=NPS.out;unfold maxLen;omega) (by have:=NPS.out;omega) (Nat.le_trans SZ6.out BA.out.size) ?_;intro v8 w8 own8 gr8 mv8))
    obtain⟨A8,c8',rfl⟩:=own_form own8;have OWB:=own_belowK OW6.out BA.out;have f8:=gr_fx gr8;have B68:Hid (Below w5.heap.size w6 w8):=(BA.out.mono SZ6.out).trans ((f8.mono (C:=w5.heap.size) (Y:=fun k=>(Value.slice A6 p.ss.n c6).ownBlock=some k) (Nat.le_trans SZ6.out BA.out.size) (fun _ _ x=>x)).bel (fun k hk x=>by have:=(own_block OWB x).1;omega));have OW8:Hid (w8.ownsRow w5.heap.size 48 15 (.slice A8 (p.ss.n+1) c8') (p.ss.n+1) (rowC (fun i=>if i<p.ss.n then p.s i else newSt s) (p.ss.n+1))):=moreC_row (b:=newSt s) own8;have B8:Hid (Below w.heap.size w w8):=B6.out.trans (B68.out.mono (Nat.le_trans B4.out.size (by have:=SZ5.out;omega)));have GP8:=Hj ((B68.out.block _ LP5.out.1).trans GP6.out);have GS8:=Hj ((B68.out.block _ LP5.out.2.1).trans GS6.out);have GQ8:Hid (Blk w8 w4.heap.size 25 #[.int .i64 p.ticks,.slice p.ds.ao p.ds.n p.ds.c,.slice p.is.ao p.is.n p.is.c,.slice p.ss.ao p.ss.n p.ss.c]):=(B68.out.block _ LP5.out.2.2).trans GQ6.out;clear own8 gr8 mv8 OWB f8 B68 NW ZB BA OW6 GP6 GS6 GQ6 B6 SZ6 c2 c4 c5 c6' c7 c8 c9 c10 ONE HI0 w7;have m3:w8.cell? ⟨w4.heap.size,3,none⟩=some (.slice p.ss.ao p.ss.n p.ss.c):=GQ8.out.cell 3;have f3:=GQ8.out.frozen 3;have q3:=GQ8.out.lt;go_upto_region 14 with fail
    have GQ9:Hid ((w8.setCell ⟨w4.heap.size,3,none⟩ (.slice A8 (p.ss.n+1) c8')).heap[w4.heap.size]? = some (pO (moreP p s ⟨A8,p.ss.n+1,c8'⟩))):=GQ8.out.set_ 3 (.slice A8 (p.ss.n+1) c8');have GP9:Hid ((w8.setCell ⟨w4.heap.size,3,none⟩ (.slice A8 (p.ss.n+1) c8')).heap[w.heap.size]? = some (pO p)):=(Below.heap_setCell _ _ _ _ (by show w.heap.size≠w4.heap.size;have:=LP4.out;omega)).trans GP8.out;have GS9:Hid ((w8.setCell ⟨w4.heap.size,3,none⟩ (.slice A8 (p.ss.n+1) c8')).heap[w.heap.size+1]? = some (sO s.h s.e.h)):=(Below.heap_setCell _ _ _ _ (by show w.heap.size+1≠w4.heap.size;have:=LP4.out;omega)).trans GS8.out;have B9:=Hj (bel_set B8.out (p:=⟨w4.heap.size,3,none⟩) B4.out.size (.slice A8 (p.ss.n+1) c8'));have OW9:=Hj (ownsRow_setCell_below OW8.out (a:=⟨w4.heap.size,3,none⟩) LP5.out.2.2 (.slice A8 (p.ss.n+1) c8'));clear m3 f3 q3 GQ8 GP8 GS8 B8 OW8;generalize w8.setCell ⟨w4.heap.size,3,none⟩ (.slice A8 (p.ss.n+1) c8')=w9 at *;have IP9:=Hj ((IP.out.below B9.out (Nat.le_refl _)).up12 B9.out.size);have IS9:Hid (s.In w9.heap.size w9):=(IS.out.below B9.out (Nat.le_refl _)).mono (fun _ _=>rfl) B9.out.size
    have IQ9:Hid ((moreP p s ⟨A8,p.ss.n+1,c8'⟩).In w9.heap.size w9):=by
     obtain⟨S,hS,hSn,hx⟩:=own_ss OW9.out (fun i hi=>by
      try dsimp only
      split
      ·rename_i h;exact IP9.out.2.2.2.2.2 i h
      ·exact newSt_in IS9.out)
     obtain⟨Sa,Sn,Sc⟩:=S;unfold Sl.val at hS;injection hS with h1 h2 h3;subst h1 h2 h3;exact⟨IP9.out.1,IP9.out.2.1,IP9.out.2.2.1,hx⟩
    have GD:Hid (Sc.good ⟨p.ds.n,p.d,[],false⟩):=by
     have h:=HZ.out;unfold Pr.ck at h
     split at h
     ·cases h
     ·cases hd:desC isnV raN p.d p.ds.n with
      | no c q=>rw[hd]at h;cases h
      | ok c=>exact fun i hi=>(raN_len (desC_ok hd i hi).2.2.2).1
    have TY:=Hj (ccTypeOf_any p s.e w9 IP9.out IS9.out.ex (Nat.le_trans P1.out (by decide)) (Nat.le_trans P2.out (by decide)) GD.out)
    have MS:Hid (∀n,n=p.ds.n→(((moreP p s ⟨A8,p.ss.n+1,c8'⟩).ck isnV raN).er == 0)=rtD p.d s.h.nm ((s.e.ck ⟨p.ds.n,p.d,[],false⟩).va 0) (s.e.ck ⟨p.ds.n,p.d,[],false⟩).er n):=fun n hn=>
     more_says (h:=newS s.h) HZ.out rfl rfl rfl (fun _ _=>rfl) rfl (fun i hi=>if_pos hi) (fun S=>by show(if p.ss.n<p.ss.n then _ else newSt s).ck isnV S=_;rw[if_neg (Nat.lt_irrefl _)];exact newSt_ck s S) rfl rfl hn
    have CQ:Hid (∀w',Below w9.heap.size w9 w'→Calls Tryz.prog 9 #[(moreP p s ⟨A8,p.ss.n+1,c8'⟩).v] w' fun r w''=>r=.returned (.tuple #[.int .i64 ((moreP p s ⟨A8,p.ss.n+1,c8'⟩).ck isnV raN).er,.int .i64 ((moreP p s ⟨A8,p.ss.n+1,c8'⟩).ck isnV raN).pl])∧Below w'.heap.size w' w''):=fun w' hb=>by
     have hE:=HE.out.below (B9.out.trans (hb.mono B9.out.size));have hI:=(IQ9.out.below hb (Nat.le_refl _)).up12 hb.size;have hw:=P1.out;unfold Pr.wt at hw;have q1:∀i,i<p.is.n→(p.i i).wt≤1000000:=fun i hi=>by have h3:=sm_one (f:=fun i=>(p.i i).wt) hi;have h6:(fun i=>(p.i i).wt) i=(p.i i).wt:=rfl;omega
     have q2:∀i,i<p.ss.n→(p.s i).wt≤1000000:=fun i hi=>by have h3:=sm_one (f:=fun i=>(p.s i).wt) hi;have h6:(fun i=>(p.s i).wt) i=(p.s i).wt:=rfl;omega
     have n1:=wt_rows p.i p.is.n;refine ccCheck_gen (moreP p s ⟨A8,p.ss.n+1,c8'⟩) w' hE hI (by show sm (fun i=>(p.d i).wt) p.ds.n≤_;omega) (by show p.is.n≤_;omega) (by show p.ss.n+1≤_;have:=NPS.out;omega) fun R M hR hM=>⟨fun i hi=>ccstmt_any w' R M hE hR hM (p.i i) (hI.2.2.1.2.2 i hi) (q1 i hi),fun i hi=>?_⟩;have hi':i<p.ss.n+1:=hi;have hin:=hI.2.2.2.2.2 i hi;show CkSt w' R M (if i<p.ss.n then p.s i else newSt s);change (if i<p.ss.n then p.s i else newSt s).In _ _ at hin
     by_cases h:i<p.ss.n
     ·rw[if_pos h]at hin ⊢
      exact ccstmt_any w' R M hE hR hM (p.s i) hin (q2 i h)
     ·rw[if_neg h]at hin ⊢
      exact ccstmt_asg w' R M (newSt s) rfl hin ⟨Nat.zero_le _,Nat.le_trans P2.out (by decide)⟩
    clear HZ GD IQ9 IS9 OW9 P2;generalize s.e.ck ⟨p.ds.n,p.d,[],false⟩=T at *;generalize (moreP p s ⟨A8,p.ss.n+1,c8'⟩).ck isnV raN=ZQ at *;obtain⟨a0,a1,a2,a3⟩:=p_cells GP9.out;have D:=s_cells GS9.out;have c4:=D.c4;have c5:=D.c5;have c6':=D.c6;have c7:=D.c7;have c8:=D.c8;have c9:=D.c9;have c10:=D.c10;clear D;go_wp2_with fail;refine TY.out.mono ?_;rintro x wA ⟨rfl,bA⟩;have BA:=Hj bA;have BAw:=Hj (bel_trans B9.out bA);have GPA:=Hj (keptO bA GP9.out);have GSA:=Hj (keptO bA GS9.out);have GQA:=Hj (keptO bA GQ9.out);have IPA:=Hj (IP.out.below BAw.out (Nat.le_refl _));have HND:Hid (p.ds.n≤1500):=by have h1:=de_rows p.d p.ds.n;have h2:=P1.out;unfold Pr.wt at h2;show _≤_;omega
    clear bA TY GP9 GS9 GQ9 IP9 a0 a1 a2 a3 c4 c5 c6' c7 c8 c9 c10;generalize T.va 0=t at *;generalize T.er=f at *;generalize T.pl=tp at *;go_wp2_with fail
    go_loopg [13,14] p.ds.n (fun gk r i wr=>∃j:Nat,r=.bool (rtD p.d s.h.nm t f j)∧i=.int .i64 (j:Int)∧Hid (gk=p.ds.n-j∧j≤p.ds.n)∧Hid (Below wA.heap.size wA wr))
    case atStart=>exact⟨0,rfl,rfl,⟨rfl,Nat.zero_le _⟩,Below.refl _ _⟩
    case round=>
     obtain⟨j,rfl,rfl,HJ,BJ⟩:=hrel;have GPJ:=Hj (keptO BJ.out GPA.out);have GSJ:=Hj (keptO BJ.out GSA.out);obtain⟨-,a1, -, -⟩:=p_cells GPJ.out
     by_cases hlt:j<p.ds.n
     ·have z0:(j:Int)<(p.ds.n:Int):=by omega
      have ovi:IntKind.i64.wrap ((j:Int)+1)=((j+1:Nat):Int):=by have:=HND.out;rw[IntKind.wrap_i64];omega
      obtain⟨a,b,o,ha,hA,hb1,h4⟩:=(IPA.out.below (B':=wA.heap.size) BJ.out BAw.out.size).2.1.2.1.at IPA.out.2.1.1 hlt rfl;have RC:=Hj (show wr.rangeAt b o (dcvs (p.d j) (p.d j).lo.h (p.d j).hi.h)from h4);have BX:=Hj (bx_bel (Below.refl wr.heap.size wr) (Nat.le_refl _) (dO (p.d j) (p.d j).lo.h (p.d j).hi.h));have GD:=Hj (bx_new wr (dO (p.d j) (p.d j).lo.h (p.d j).hi.h));have HLT:=Hj hlt;have O1:=Hj (dcvs_one (p.d j) (p.d j).lo.h (p.d j).hi.h);rw[dO_eq]at BX GD;obtain⟨V1,hV1⟩:∃V,dcvs (p.d j) (p.d j).lo.h (p.d j).hi.h=V:=⟨_,rfl⟩;have HV1:=Hj hV1;have L1:=Hj (show(Tryz.prog.info? 44).map (·.size)=some V1.length∧V1.length=20 by rw[←hV1];exact⟨by kernel_rfl,rfl⟩);rw[hV1]at BX GD RC O1;rw[ha]at a1;clear hb1 hlt hV1 h4 ha
      go_upto_region 20 with(first
       | refine wpList_load_mid rfl 44 _ rfl b o rfl V1 _ RC.out Tryz.underlying44 rfl L1.out.1 ?_
       | refine store_bx rfl 44 _ _ rfl wr _ V1.toArray rfl rfl (by rw[List.size_toArray];exact L1.out.1) (by have h:V1.toArray.size=20:=(by rw[List.size_toArray];exact L1.out.2);rw[h];rfl) O1.out ?_)
      clear RC O1 a1;have GD':Hid ((bx wr (.cells V1.toArray 44 (0,0))).heap[wr.heap.size]? = some (dO (p.d j) (p.d j).lo.h (p.d j).hi.h)):=by rw[dO_eq,HV1.out];exact GD
      have GSV:=Hj (keptO BX.out GSJ.out);clear GD;generalize bx wr (.cells V1.toArray 44 (0,0))=wv at *;try simp only[Act.put]
      have DD:=d_cells GD'.out;have d1:=DD.c1;have d2:=DD.c2;have d3:=DD.c3;have d4:=DD.c4;have c2:=(s_cells GSV.out).c2;have BV:=Hj (bel_trans BJ.out BX.out);clear DD;obtain⟨rb,hrb⟩:∃rb,rtD p.d s.h.nm t f j=rb:=⟨_,rfl⟩;have HRB:=Hj hrb;rw[hrb];have EX:Hid (rtD p.d s.h.nm t f (j+1)=(rb || mtD (p.d j) s.h.nm t f)):=by show(rtD _ _ _ _ j || _)=_;rw[hrb]
      clear hrb
      cases rb with
      | true=>
       go_wp2_with fail
       go_roundg (p.ds.n-(j+1))
       case measure=>have:=HJ.out;have:=HLT.out;omega
       case rel=>exact⟨j+1,by rw[EX.out];rfl,by go_num,⟨rfl,HLT.out⟩,BV.out⟩
      | false=>
       by_cases e1:(p.d j).nm=s.h.nm
       case neg=>
        have hb:((p.d j).nm == s.h.nm)=false:=by simp[e1]
        have EV:Hid (rtD p.d s.h.nm t f (j+1)=false):=by show _=_;rw[EX.out];simp[mtD,e1]
        clear e1 EX;go_wp2_with fail
        go_roundg (p.ds.n-(j+1))
        case measure=>have:=HJ.out;have:=HLT.out;omega
        case rel=>exact⟨j+1,by rw[EV.out],by go_num,⟨rfl,HLT.out⟩,BV.out⟩
       case pos=>
        have hb:((p.d j).nm == s.h.nm)=true:=by simp[e1]
        obtain⟨inp,hinp⟩:∃inp,(p.d j).inp=inp:=⟨_,rfl⟩;rw[hinp]at d1
        cases inp with
        | true=>
         have EV:Hid (rtD p.d s.h.nm t f (j+1)=false):=by show _=_;rw[EX.out];simp[mtD,hinp]
         clear e1 EX hinp;go_wp2_with fail
         go_roundg (p.ds.n-(j+1))
         case measure=>have:=HJ.out;have:=HLT.out;omega
         case rel=>exact⟨j+1,by rw[EV.out],by go_num,⟨rfl,HLT.out⟩,BV.out⟩
        | false=>
         by_cases e2:(p.d j).len=0
         case neg=>
          have hb2:((p.d j).len == 0)=false:=by simp[e2]
          have EV:Hid (rtD p.d s.h.nm t f (j+1)=false):=by show _=_;rw[EX.out];simp[mtD,e2]
          clear e1 e2 EX hinp;go_wp2_with fail
          go_roundg (p.ds.n-(j+1))
          case measure=>have:=HJ.out;have:=HLT.out;omega
          case rel=>exact⟨j+1,by rw[EV.out],by go_num,⟨rfl,HLT.out⟩,BV.out⟩
         case pos=>
          have hb2:((p.d j).len == 0)=true:=by simp[e2]
          by_cases e3:(p.d j).ty=t
          case neg=>
           have hb3:((p.d j).ty == t)=false:=by simp[e3]
           have EV:Hid (rtD p.d s.h.nm t f (j+1)=false):=by show _=_;rw[EX.out];simp[mtD,e3]
           clear e1 e2 e3 EX hinp;go_wp2_with fail
           go_roundg (p.ds.n-(j+1))
           case measure=>have:=HJ.out;have:=HLT.out;omega
           case rel=>exact⟨j+1,by rw[EV.out],by go_num,⟨rfl,HLT.out⟩,BV.out⟩
          case pos=>
           have hb3:((p.d j).ty == t)=true:=by simp[e3]
           have EV:Hid (rtD p.d s.h.nm t f (j+1)=(f == 0)):=by show _=_;rw[EX.out];simp[mtD,e1,e2,e3,hinp]
           clear e1 e2 e3 EX hinp;go_wp2_with fail
           go_roundg (p.ds.n-(j+1))
           case measure=>have:=HJ.out;have:=HLT.out;omega
           case rel=>exact⟨j+1,by rw[EV.out],by go_num,⟨rfl,HLT.out⟩,BV.out⟩
     ·obtain rfl:j=p.ds.n:=by have:=HJ.out;omega
      have z0:¬(p.ds.n:Int)<(p.ds.n:Int):=by omega
      have GQJ:=Hj (keptO BJ.out GQA.out);obtain⟨q0,q1,q2,q3⟩:=p_cells GQJ.out;have CQJ:=Hj (CQ.out wr (bel_trans BA.out BJ.out));have MSJ:=Hj (MS.out p.ds.n rfl);have BBJ:=Hj (bel_trans BAw.out BJ.out);obtain⟨rb,hrb⟩:∃rb,rtD p.d s.h.nm t f p.ds.n=rb:=⟨_,rfl⟩;rw[hrb]at MSJ ⊢;clear hlt CQ MS hrb;dsimp only[moreP]at q0 q1 q2 q3;go_wp2_with fail;refine CQJ.out.mono ?_;rintro x wB ⟨rfl,bB⟩;have BF:=Hj (bel_trans BBJ.out bB);clear bB CQJ q0 q1 q2 q3 a1;have hz:=MSJ.out;generalize ZQ.er=ze at *;generalize ZQ.pl=zp at *
      cases rb with
      | true=>
       go_wp2_with fail;go_ret;exact⟨rfl,BF.out⟩
      | false=>
       go_wp2_with fail;go_ret;exact⟨rfl,BF.out⟩
theorem lmore_card (p:Pr)(s:St)(w:World)(hp:p.In w.heap.size w)(hs:s.In w.heap.size w)(hE:Env9 w):Calls Tryz.prog 5 #[p.v,stv s.h s.e.h] w fun x w'=>x=.returned (.bool true)∧Below w.heap.size w w':=lmore_walk p s w hp hs hE
end Go.Proofs.YtkbicfffokegeaaGreatDoor
namespace Go.Proofs.YtkbicfffokegeaaGreatDoor
set_option maxHeartbeats 16000000
open Go.ChangeShapes Go.WideShapes Go.ChangeAt Go.RowKit Go.Joins
set_option maxRecDepth 100000
theorem own:ownKnob Tryz.prog.godebug=none:=by kernel_rfl
theorem laidOut:laidOutB Tryz.prog=true:=by kernel_rfl
theorem word_of_wf {x:Int}(h:(Lit.int .u64 x).wf=true):Word x:=by
 simp[Lit.wf,IntKind.min,IntKind.max,IntKind.signed,IntKind.bits]at h
 exact⟨by omega,by omega⟩
theorem i64_of_wf {x:Int}(h:(Lit.int .i64 x).wf=true):-9223372036854775808≤x∧x≤9223372036854775807:=by
 simp[Lit.wf,IntKind.min,IntKind.max,IntKind.signed,IntKind.bits]at h
 exact⟨by omega,by omega⟩
section
variable {H:Type} {enc:TypeId×Value→H} {w:World} {base:Nat} {spare:Nat→Bool} {held:Bool} {r:Reach} {bb:Nat} {v:Value} {d:DataW H} {p:List MemPlace}
end
theorem gTab:Tryz.prog.globalNamed "math/bits.deBruijn32tab" = some 9:=by kernel_rfl
theorem tTab:(Tryz.prog.globals[9]?).map (·.type)=some 328:=by kernel_rfl
theorem tab_at (l:List (DataW Unit))(hl:Rows.laid_math_bits_deBruijn32tab=DataW.agg l)(j:Nat)(hj:j<32):l[j]? = some (.lit (.int .u8 ((Lib.deBruijn32tab.getD j 0:Nat):Int))):=by
 unfold Rows.laid_math_bits_deBruijn32tab at hl;injection hl with hl;subst hl
 match j,hj with
 | 0,_=>rfl
 | 1,_=>rfl
 | 2,_=>rfl
 | 3,_=>rfl
 | 4,_=>rfl
 | 5,_=>rfl
 | 6,_=>rfl
 | 7,_=>rfl
 | 8,_=>rfl
 | 9,_=>rfl
 | 10,_=>rfl
 | 11,_=>rfl
 | 12,_=>rfl
 | 13,_=>rfl
 | 14,_=>rfl
 | 15,_=>rfl
 | 16,_=>rfl
 | 17,_=>rfl
 | 18,_=>rfl
 | 19,_=>rfl
 | 20,_=>rfl
 | 21,_=>rfl
 | 22,_=>rfl
 | 23,_=>rfl
 | 24,_=>rfl
 | 25,_=>rfl
 | 26,_=>rfl
 | 27,_=>rfl
 | 28,_=>rfl
 | 29,_=>rfl
 | 30,_=>rfl
 | 31,_=>rfl
 | n+32,h=>omega
end Go.Proofs.YtkbicfffokegeaaGreatDoor
namespace Go.Proofs.YtkbicfffokegeaaGreatDoor
set_option maxHeartbeats 16000000
open Go.ChangeShapes Go.WideShapes Go.ChangeAt Go.RowKit Go.Joins Go.Deep
set_option maxRecDepth 100000
section
variable {H:Type} {enc:TypeId×Value→H} {w:World} {base:Nat} {spare:Nat→Bool} {held:Bool} {r:Reach} {bb:Nat} {v:Value} {d:DataW H} {p:List MemPlace}
end
end Go.Proofs.YtkbicfffokegeaaGreatDoor
namespace Go.Proofs.YtkbicfffokegeaaGreatDoor
set_option maxHeartbeats 16000000
open Go.ChangeShapes Go.WideShapes Go.ChangeAt Go.RowKit Go.Joins
set_option maxRecDepth 100000
abbrev theLaid8:List (String×DataW Unit):=[("math/bits.deBruijn32tab",Rows.laid_math_bits_deBruijn32tab),("math/bits.deBruijn64tab",Rows.laid_math_bits_deBruijn64tab),("internal/strconv.uint64pow10",Rows.laid_internal_strconv_uint64pow10),("unicode/utf8.acceptRanges",Rows.laid_unicode_utf8_acceptRanges),("strconv.ErrRange",Rows.laid_strconv_ErrRange),("strconv.ErrSyntax",Rows.laid_strconv_ErrSyntax),("unicode.White_Space",Rows.laid_unicode_White_Space),("strings.asciiSpace",Rows.laid_strings_asciiSpace),("unicode/utf8.first",Rows.laid_unicode_utf8_first)]
theorem pow10_type:(Tryz.prog.globals[8]?).map (·.type)=some 325:=by kernel_rfl
theorem pow10_laid:(Rows.laid_internal_strconv_uint64pow10:DataW Unit)=Lib.tabData .u64 Lib.pow10Tab:=by kernel_rfl
theorem tabs_of_laid8 {W:World}(h:laidMetH Tryz.prog theLaid8 W):(TabOk W∧Lib.TabIs Tryz.prog W "internal/strconv.uint64pow10" .u64 Lib.pow10Tab)∧Lib.TabIs Tryz.prog W "strings.asciiSpace" .u8 Lib.asciiSpaceTab∧∃ev,W.cell? ⟨6,0,none⟩=some ev∧(ev=.nilIface∨∃te pe,ev=.iface te pe):=by
 rw[MakeChecks.laidMetH_plain _ _ _ (by kernel_rfl)]at h;obtain⟨ps,⟨g0,t0,cs0,f0,p0,q0,hg0,ht0,hv0,hd0,⟨g1,t1,cs1,f1,p1,q1,hg1,ht1,hv1,hd1,⟨g2,t2,cs2,f2,p2,q2,hg2,ht2,hv2,hd2,⟨g3,t3,cs3,f3,p3,q3,hg3,ht3,hv3,hd3,⟨g4,t4,cs4,f4,p4,q4,hg4,ht4,hv4,hd4,⟨g5,t5,cs5,f5,p5,q5,hg5,ht5,hv5,hd5,⟨g6,t6,cs6,f6,p6,q6,hg6,ht6,hv6,hd6,⟨g7,t7,cs7,f7,p7,q7,hg7,ht7,hv7,hd7,_,_⟩,_⟩,_⟩,_⟩,_⟩,_⟩,_⟩,_⟩,_⟩:=h;refine⟨⟨?_,?_⟩,?_,?_⟩
 ·obtain rfl:=Option.some.inj (gTab.symm.trans hg0)
  obtain rfl:=Option.some.inj (tTab.symm.trans ht0);obtain⟨xs,m1,rfl,hx1,hlen,hn,hel⟩:=DataW.trod_array Tryz.underlying328 hd0;have c5:Tryz.prog.cellsOf 5=1:=by kernel_rfl
  simp only[Prod.mk.injEq]at hx1;have hx2:Rows.laid_math_bits_deBruijn32tab=DataW.agg (xs.map (·.1)):=hx1.1;intro j hj;rw[World.var?_cell hg0 hv0 j];have he:=hel j hj;rw[c5,Nat.mul_one]at he;have hjx:j<xs.length:=by omega
  rw[List.getElem?_eq_getElem hjx]at he;obtain⟨k,e1,e2,_⟩:=DataW.trod_int Tryz.underlying5 he;have e3:(xs.map (·.1))[j]? = some (.lit (.int .u8 k)):=by rw[List.getElem?_map,List.getElem?_eq_getElem hjx,e2];rfl
  have e5:=(tab_at _ hx2 j hj).symm.trans e3;simp only[Option.some.injEq,DataW.lit.injEq,Lit.int.injEq,true_and]at e5
  have e6:cs0.toList[j]? = some (.int .u8 k):=by
   have:((cs0.toList.drop j).take 1)[0]? = some (.int .u8 k):=by rw[e1];rfl
   rw[List.getElem?_take,if_pos (by decide),List.getElem?_drop]at this
   simpa using this
  rw[←Array.getElem?_toList,e6,e5]
 ·obtain rfl:=Option.some.inj (pow10_var.symm.trans hg2)
  obtain rfl:=Option.some.inj (pow10_type.symm.trans ht2);rw[pow10_laid]at hd2;unfold Lib.TabIs;rw[hv2,←Lib.cells_of_tab Tryz.underlying325 Tryz.underlying38 (by kernel_rfl) (by kernel_rfl) hd2]
 ·obtain rfl:=Option.some.inj ((show Tryz.prog.globalNamed "strings.asciiSpace" = some 0 by kernel_rfl).symm.trans hg7)
  obtain rfl:=Option.some.inj ((show(Tryz.prog.globals[0]?).map (·.type)=some 146 by kernel_rfl).symm.trans ht7);rw[show(Rows.laid_strings_asciiSpace:DataW Unit)=Lib.tabData .u8 Lib.asciiSpaceTab by kernel_rfl]at hd7;unfold Lib.TabIs;rw[hv7,←Lib.cells_of_tab Tryz.underlying146 Tryz.underlying5 (by kernel_rfl) (by kernel_rfl) hd7]
 ·obtain rfl:=Option.some.inj ((show Tryz.prog.globalNamed "strconv.ErrRange" = some 6 by kernel_rfl).symm.trans hg4)
  obtain rfl:=Option.some.inj ((show(Tryz.prog.globals[6]?).map (·.type)=some 208 by kernel_rfl).symm.trans ht4);obtain⟨f',u,v,e, -, -⟩:=iface_of_trod Tryz.underlying208 hd4;have hc:=World.var?_cell hg4 hv4 0;have e0:cs4[0]? = some (.iface u v):=by rw[←Array.getElem?_toList,e];rfl
  exact⟨_,hc.trans e0,.inr ⟨u,v,rfl⟩⟩
theorem env_of8 {W:World}(h:laidMetH Tryz.prog theLaid8 W)(hs:W.ShapedOpen Tryz.prog):Env9 W:=
 ⟨⟨(tabs_of_laid8 h).1.1,(tabs_of_laid8 h).1.2,cell_of_shapedOpen_int (zero:=#[.int .i64 0]) (t:=3) hs (of_decide_eq_true (by kernel_rfl)) (by kernel_rfl) rfl (by kernel_rfl) (by kernel_rfl) Tryz.underlying3⟩,(tabs_of_laid8 h).2.1,(tabs_of_laid8 h).2.2⟩
theorem laid8_met (os:Os)(args:Array Value):laidMetH Tryz.prog theLaid8 ((World.laidAll Tryz.prog os theLaid8).forCall (fun _ _=>0) ⟨#[],args,[]⟩).memory:=by
 rw[MakeChecks.laidMetH_plain _ _ _ (by kernel_rfl)];exact laidMet_laidAll _ (by kernel_rfl) (by kernel_rfl)
theorem lift8 {H:Type}{enc:TypeId×Value→H}{os:Os}{f:FuncId}{fn:Func}{s:ChangeSpec}(started:os.Started)(noInit:Tryz.checked.prog.inits.idxOf? f=none)(hfn:Tryz.checked.prog.funcs[f]? = some fn)
  (witness:∃(w:World) (tape:Tape) (i:Input),w.os=os∧(w.forCall tape i).Shaped Tryz.checked.prog∧i.vars=[]∧Input.okWide Tryz.checked.prog (w.forCall tape i) .any w.heap.size f i ∧
   ((s.pre enc Tryz.checked.prog fn [] false (w.forCall tape i).memory i.args∧laidMetH Tryz.prog theLaid8 (w.forCall tape i).memory)∧sizedMet enc Tryz.checked.prog fn (OpenSpec.ofChange s) false (w.forCall tape i).memory i.args)∧({}:Assume).holds Tryz.checked.prog (lone (Frame.enter Tryz.checked.prog f i.args .normal) [] (w.forCall tape i)))
  (walk:∀(W:World) (base:Nat) (args:Array Value) (ds gs:List (DataW H)) (before:List MemPlace),
   (∀(j:Nat) t v,fn.params[j]? = some t→args[j]? = some v→Value.okWide Tryz.checked.prog W .any base t v)→DataW.Whole enc Tryz.checked.prog fn.params.toList s.vars false W args.toList ds gs before→Env9 W →
   Calls Tryz.checked.prog f args W fun e W'=>∃v,e=.returned v∧s.post enc Tryz.checked.prog fn false true false false W args v W') :
  ReturnsInHanded {} Tryz.checked os f .any (fun w args=>(s.pre enc Tryz.checked.prog fn [] false w args∧laidMetH Tryz.prog theLaid8 w)∧sizedMet enc Tryz.checked.prog fn (OpenSpec.ofChange s) false w args) (s.post enc Tryz.checked.prog fn false true false false):=by
 refine returnsInHanded_of_calls own started noInit witness ?_;intro w tape i _ hsh _ hok hpre _;obtain⟨_,_,_,fn',hfn',_,_,_,_,hval⟩:=hok;obtain rfl:fn'=fn:=Option.some.inj (hfn'.symm.trans hfn);obtain⟨⟨⟨ds,gs,before,hw, -⟩,hx⟩, -⟩:=hpre;refine(walk (w.forCall tape i) w.heap.size i.args ds gs before hval (DataW.Whole.of_heap (w':=w.forCall tape i) (by rfl) hw) (env_of8 (hx.of_heap (by rfl)) hsh)).mono fun e W' ⟨v,he,hp⟩=>?_;subst he;exact ChangeSpec.post_blind hp
instance:Inhabited Ex:=⟨.no⟩
instance:Inhabited St:=⟨.no⟩
instance:Inhabited De:=⟨⟨0,false,[],0,0,false,.no,.no⟩⟩
theorem u8_of_wf {x:Int}(h:(Lit.int .u8 x).wf=true):0≤x∧x≤255:=by
 simp[Lit.wf,IntKind.min,IntKind.max,IntKind.signed,IntKind.bits]at h
 omega
theorem i32_of_wf {x:Int}(h:(Lit.int .i32 x).wf=true):-2147483648≤x∧x≤2147483647:=by
 simp[Lit.wf,IntKind.min,IntKind.max,IntKind.signed,IntKind.bits]at h
 omega
section
variable {H:Type} {enc:TypeId×Value→H} {w:World} {base:Nat} {spare:Nat→Bool} {held:Bool}
theorem open_list {α:Type}[Inhabited α]{ts te:TypeId}{sz:Nat}(hsz:0<sz)(ht:Tryz.prog.underlying ts=some (.slice te))(hc:Tryz.prog.cellsOf te=sz)(vs:α→List Value)(P:α→Prop){fuel:Nat}{cs:List Value}{x:DataW H×List MemPlace}
  (ih:∀n,n<fuel→∀cs x,DataW.trod enc Tryz.prog w base spare held n te cs=some x→∃a:α,cs=vs a∧P a) (h:DataW.trod enc Tryz.prog w base spare held fuel ts cs=some x) :
  ∃(s:Sl) (k:Nat→α),cs=[.slice s.ao s.n s.c]∧s.ok∧Rw w w.heap.size s sz (fun i=>vs (k i))∧∀i,i<s.n→P (k i):=by
 rcases DataW.trod_slice ht h with⟨rfl, -⟩|⟨a,len,cap,elems,rest,n,hn,rfl, -,hb,hl,hm,hlen,hel, -⟩
 ·exact⟨⟨none,0,0⟩,fun _=>default,rfl,⟨Nat.le_refl _,Nat.zero_le _,fun _=>rfl⟩,fun a (ha:none=some a)=>(by cases ha),fun i hi=>absurd hi (Nat.not_lt_zero i)⟩
 ·have key:∀i,i<len→∃e:α,(∃cs',w.cells? base (a.add (i*sz)) sz=some cs'∧cs'=vs e)∧P e:=fun i hi=>by
   have h1:=hel i hi;rw[hc,List.getElem?_eq_getElem (by omega)]at h1;obtain⟨cs',h2,h3⟩:=Option.bind_eq_some_iff.1 h1;obtain⟨e,h4,h5⟩:=ih n (by omega) cs' _ h3;exact⟨e,⟨cs',h2,h4⟩,h5⟩
  obtain⟨f,hf⟩:=Go.Deep.choose_lt key;refine⟨⟨some a,len,cap⟩,f,rfl,⟨hl,hm,fun h=>by cases h⟩,fun b hb' i hi=>?_,fun i hi=>(hf i hi).2⟩;obtain rfl:=Option.some.inj hb';obtain⟨cs',h1,h2⟩:=(hf i hi).1;have hblk:=World.cells?_block h1 hsz;refine⟨by rw[add_block]at hblk;exact hblk,fun j v hv=>?_⟩;have h3:=World.cells?_some h1;rw[←Go.Deep.add_add]
  have hj:j<sz:=by
   rw[←h3.2.1,h2];exact(List.getElem?_eq_some_iff.1 hv).1
  rw[h3.2.2 j hj,h2];exact hv
theorem field_of {t:TypeId}{fs:Array Field}{n:Nat}{cs:List Value}{xs:List (DataW H×List MemPlace)}(hl:xs.length=fs.size)(h:∀(i:Nat) (f:Field),fs[i]? = some f→DataW.trod enc Tryz.prog w base spare held n f.type ((cs.drop f.offset).take (Tryz.prog.cellsOf f.type))=xs[i]?)
  (i:Nat) (f:Field) (hf:fs[i]? = some f) (hc:Tryz.prog.cellsOf f.type=t):∃y,DataW.trod enc Tryz.prog w base spare held n f.type ((cs.drop f.offset).take t)=some y:=by
 have h1:=h i f hf;rw[hc]at h1;have hi:i<xs.length:=by rw[hl];exact(Array.getElem?_eq_some_iff.1 hf).1
 rw[List.getElem?_eq_getElem hi]at h1;exact⟨_,h1⟩
theorem open_x:∀(fuel:Nat) (cs:List Value) (x:DataW H×List MemPlace),DataW.trod enc Tryz.prog w base spare held fuel 42 cs=some x→∃e:Ex,cs=e.h.vs∧e.In w.heap.size w:=by
 intro fuel
 induction fuel using Nat.strongRecOn with
 | ind fuel ih=>
  intro cs x h;obtain⟨xs,n,rfl, -,hl,hxl,hf⟩:=DataW.trod_struct Tryz.underlying42 h;rw[show Tryz.prog.cellsOf 42=7 by kernel_rfl]at hl
  obtain⟨c0,c1,c2,c3,c4,c5,c6,rfl⟩:∃c0 c1 c2 c3 c4 c5 c6,cs=[c0,c1,c2,c3,c4,c5,c6]:=by
   match cs,hl with
   | [c0,c1,c2,c3,c4,c5,c6],_=>exact⟨_,_,_,_,_,_,_,rfl⟩
  obtain⟨y0,f0⟩:=field_of hxl hf 0 _ rfl (t:=1) (by kernel_rfl);obtain⟨y1,f1⟩:=field_of hxl hf 1 _ rfl (t:=1) (by kernel_rfl);obtain⟨y2,f2⟩:=field_of hxl hf 2 _ rfl (t:=1) (by kernel_rfl);obtain⟨y3,f3⟩:=field_of hxl hf 3 _ rfl (t:=1) (by kernel_rfl);obtain⟨y4,f4⟩:=field_of hxl hf 4 _ rfl (t:=1) (by kernel_rfl);obtain⟨y5,f5⟩:=field_of hxl hf 5 _ rfl (t:=1) (by kernel_rfl);obtain⟨y6,f6⟩:=field_of hxl hf 6 _ rfl (t:=1) (by kernel_rfl);obtain⟨op,e0, -,w0⟩:=DataW.trod_int Tryz.underlying37 f0;obtain⟨ps,e1, -,w1⟩:=DataW.trod_int Tryz.underlying3 f1;obtain⟨bo,e2, -⟩:=DataW.trod_bool Tryz.underlying4 f2;obtain⟨it,e3, -,w3⟩:=DataW.trod_int Tryz.underlying21 f3;obtain⟨fl,e4, -,w4⟩:=DataW.trod_int Tryz.underlying39 f4;obtain⟨nm,e5, -,w5⟩:=DataW.trod_string Tryz.underlying9 f5;obtain⟨s,k,e6,hs,hr,hk⟩:=open_list (sz:=7) (by decide) Tryz.underlying40 (by kernel_rfl) (fun e:Ex=>e.h.vs) (fun e=>e.In w.heap.size w) (fun m hm cs x h=>ih m (by omega) cs x h) f6;obtain rfl:c0=_:=List.head_eq_of_cons_eq e0;obtain rfl:c1=_:=List.head_eq_of_cons_eq e1;obtain rfl:c2=_:=List.head_eq_of_cons_eq e2;obtain rfl:c3=_:=List.head_eq_of_cons_eq e3;obtain rfl:c4=_:=List.head_eq_of_cons_eq e4
  obtain rfl:c5=_:=List.head_eq_of_cons_eq e5;obtain rfl:c6=_:=List.head_eq_of_cons_eq e6;exact⟨.mk ⟨op,ps,bo,it,fl,nm.data.toList,s⟩ k,rfl,⟨(u8_of_wf w0).1,(u8_of_wf w0).2,(i64_of_wf w1).1,(i64_of_wf w1).2,(i32_of_wf w3).1,(i32_of_wf w3).2,word_of_wf w4,by rw[←Lib.size_eq];exact w5,hs⟩,hr,hk⟩
theorem open_s:∀(fuel:Nat) (cs:List Value) (x:DataW H×List MemPlace),DataW.trod enc Tryz.prog w base spare held fuel 48 cs=some x→∃s:St,cs=stvs s.h s.e.h∧s.In w.heap.size w:=by
 intro fuel
 induction fuel using Nat.strongRecOn with
 | ind fuel ih=>
  intro cs x h;obtain⟨xs,n,rfl, -,hl,hxl,hf⟩:=DataW.trod_struct Tryz.underlying48 h;rw[show Tryz.prog.cellsOf 48=15 by kernel_rfl]at hl
  obtain⟨c0,c1,c2,c3,c4,c5,c6,c7,c8,c9,c10,c11,c12,c13,c14,rfl⟩:∃c0 c1 c2 c3 c4 c5 c6 c7 c8 c9 c10 c11 c12 c13 c14,cs=[c0,c1,c2,c3,c4,c5,c6,c7,c8,c9,c10,c11,c12,c13,c14]:=by
   match cs,hl with
   | [c0,c1,c2,c3,c4,c5,c6,c7,c8,c9,c10,c11,c12,c13,c14],_=>exact⟨_,_,_,_,_,_,_,_,_,_,_,_,_,_,_,rfl⟩
  obtain⟨y0,f0⟩:=field_of hxl hf 0 _ rfl (t:=1) (by kernel_rfl);obtain⟨y1,f1⟩:=field_of hxl hf 1 _ rfl (t:=1) (by kernel_rfl);obtain⟨y2,f2⟩:=field_of hxl hf 2 _ rfl (t:=1) (by kernel_rfl);obtain⟨y3,f3⟩:=field_of hxl hf 3 _ rfl (t:=1) (by kernel_rfl);obtain⟨y4,f4⟩:=field_of hxl hf 4 _ rfl (t:=7) (by kernel_rfl);obtain⟨y5,f5⟩:=field_of hxl hf 5 _ rfl (t:=1) (by kernel_rfl);obtain⟨y6,f6⟩:=field_of hxl hf 6 _ rfl (t:=1) (by kernel_rfl);obtain⟨y7,f7⟩:=field_of hxl hf 7 _ rfl (t:=1) (by kernel_rfl);obtain⟨y8,f8⟩:=field_of hxl hf 8 _ rfl (t:=1) (by kernel_rfl);obtain⟨kd,e0, -,w0⟩:=DataW.trod_int Tryz.underlying46 f0;obtain⟨ps,e1, -,w1⟩:=DataW.trod_int Tryz.underlying3 f1;obtain⟨nm,e2, -,w2⟩:=DataW.trod_string Tryz.underlying9 f2;obtain⟨sX,kX,e3,hsX,hrX,hkX⟩:=open_list (sz:=7) (by decide) Tryz.underlying40 (by kernel_rfl) (fun e:Ex=>e.h.vs) (fun e=>e.In w.heap.size w) (fun m _ cs x h=>open_x m cs x h) f3;obtain⟨e,e4,he⟩:=open_x n _ _ f4;obtain⟨lo,e5, -,w5⟩:=DataW.trod_int Tryz.underlying21 f5;obtain⟨hi,e6, -,w6⟩:=DataW.trod_int Tryz.underlying21 f6
  obtain⟨sT,kT,e7,hsT,hrT,hkT⟩:=open_list (sz:=15) (by decide) Tryz.underlying23 (by kernel_rfl) (fun s:St=>stvs s.h s.e.h) (fun s=>s.In w.heap.size w) (fun m hm cs x h=>ih m (by omega) cs x h) f7;obtain⟨sL,kL,e8,hsL,hrL,hkL⟩:=open_list (sz:=15) (by decide) Tryz.underlying23 (by kernel_rfl) (fun s:St=>stvs s.h s.e.h) (fun s=>s.In w.heap.size w) (fun m hm cs x h=>ih m (by omega) cs x h) f8;obtain rfl:c0=_:=List.head_eq_of_cons_eq e0;obtain rfl:c1=_:=List.head_eq_of_cons_eq e1;obtain rfl:c2=_:=List.head_eq_of_cons_eq e2;obtain rfl:c3=_:=List.head_eq_of_cons_eq e3;have q4:[c4,c5,c6,c7,c8,c9,c10]=e.h.vs:=e4;simp only[EH.vs,List.cons.injEq,and_true]at q4;obtain⟨rfl,rfl,rfl,rfl,rfl,rfl,rfl⟩:=q4;obtain rfl:c11=_:=List.head_eq_of_cons_eq e5;obtain rfl:c12=_:=List.head_eq_of_cons_eq e6;obtain rfl:c13=_:=List.head_eq_of_cons_eq e7;obtain rfl:c14=_:=List.head_eq_of_cons_eq e8;exact⟨.mk ⟨kd,ps,nm.data.toList,sX,lo,hi,sT,sL⟩ kX e kT kL,rfl,⟨(u8_of_wf w0).1,(u8_of_wf w0).2,(i64_of_wf w1).1,(i64_of_wf w1).2,(i32_of_wf w5).1,(i32_of_wf w5).2,(i32_of_wf w6).1,(i32_of_wf w6).2,by rw[←Lib.size_eq];exact w2,hsX,hsT,hsL⟩,⟨hsX,hrX,hkX⟩,he,hrT,hkT,hrL,hkL⟩
theorem open_d (fuel:Nat)(cs:List Value)(x:DataW H×List MemPlace)(h:DataW.trod enc Tryz.prog w base spare held fuel 44 cs=some x):∃d:De,cs=dcvs d d.lo.h d.hi.h∧d.In w.heap.size w:=by
 obtain⟨xs,n,rfl, -,hl,hxl,hf⟩:=DataW.trod_struct Tryz.underlying44 h;rw[show Tryz.prog.cellsOf 44=20 by kernel_rfl]at hl
 obtain⟨c0,c1,c2,c3,c4,c5,c6,c7,c8,c9,c10,c11,c12,c13,c14,c15,c16,c17,c18,c19,rfl⟩:∃c0 c1 c2 c3 c4 c5 c6 c7 c8 c9 c10 c11 c12 c13 c14 c15 c16 c17 c18 c19,cs=[c0,c1,c2,c3,c4,c5,c6,c7,c8,c9,c10,c11,c12,c13,c14,c15,c16,c17,c18,c19]:=by
  match cs,hl with
  | [c0,c1,c2,c3,c4,c5,c6,c7,c8,c9,c10,c11,c12,c13,c14,c15,c16,c17,c18,c19],_=>exact⟨_,_,_,_,_,_,_,_,_,_,_,_,_,_,_,_,_,_,_,_,rfl⟩
 obtain⟨y0,f0⟩:=field_of hxl hf 0 _ rfl (t:=1) (by kernel_rfl);obtain⟨y1,f1⟩:=field_of hxl hf 1 _ rfl (t:=1) (by kernel_rfl);obtain⟨y2,f2⟩:=field_of hxl hf 2 _ rfl (t:=1) (by kernel_rfl);obtain⟨y3,f3⟩:=field_of hxl hf 3 _ rfl (t:=1) (by kernel_rfl);obtain⟨y4,f4⟩:=field_of hxl hf 4 _ rfl (t:=1) (by kernel_rfl);obtain⟨y5,f5⟩:=field_of hxl hf 5 _ rfl (t:=1) (by kernel_rfl);obtain⟨y6,f6⟩:=field_of hxl hf 6 _ rfl (t:=7) (by kernel_rfl);obtain⟨y7,f7⟩:=field_of hxl hf 7 _ rfl (t:=7) (by kernel_rfl);obtain⟨ps,e0, -,w0⟩:=DataW.trod_int Tryz.underlying3 f0;obtain⟨inp,e1, -⟩:=DataW.trod_bool Tryz.underlying4 f1;obtain⟨nm,e2, -,w2⟩:=DataW.trod_string Tryz.underlying9 f2;obtain⟨ty,e3, -,w3⟩:=DataW.trod_int Tryz.underlying36 f3;obtain⟨len,e4, -,w4⟩:=DataW.trod_int Tryz.underlying3 f4;obtain⟨rg,e5, -⟩:=DataW.trod_bool Tryz.underlying4 f5;obtain⟨lo,e6,hlo⟩:=open_x n _ _ f6;obtain⟨hi,e7,hhi⟩:=open_x n _ _ f7;obtain rfl:c0=_:=List.head_eq_of_cons_eq e0;obtain rfl:c1=_:=List.head_eq_of_cons_eq e1;obtain rfl:c2=_:=List.head_eq_of_cons_eq e2;obtain rfl:c3=_:=List.head_eq_of_cons_eq e3;obtain rfl:c4=_:=List.head_eq_of_cons_eq e4;obtain rfl:c5=_:=List.head_eq_of_cons_eq e5;have q6:[c6,c7,c8,c9,c10,c11,c12]=lo.h.vs:=e6
 simp only[EH.vs,List.cons.injEq,and_true]at q6;obtain⟨rfl,rfl,rfl,rfl,rfl,rfl,rfl⟩:=q6;have q7:[c13,c14,c15,c16,c17,c18,c19]=hi.h.vs:=e7;simp only[EH.vs,List.cons.injEq,and_true]at q7;obtain⟨rfl,rfl,rfl,rfl,rfl,rfl,rfl⟩:=q7;exact⟨⟨ps,inp,nm.data.toList,ty,len,rg,lo,hi⟩,rfl,⟨(i64_of_wf w0).1,(i64_of_wf w0).2,(u8_of_wf w3).1,(u8_of_wf w3).2,(i64_of_wf w4).1,(i64_of_wf w4).2,by rw[←Lib.size_eq];exact w2⟩,hlo,hhi⟩
theorem open_p (fuel:Nat)(cs:List Value)(x:DataW H×List MemPlace)(h:DataW.trod enc Tryz.prog w base spare held fuel 25 cs=some x):∃p:Pr,cs=[.int .i64 p.ticks,.slice p.ds.ao p.ds.n p.ds.c,.slice p.is.ao p.is.n p.is.c,.slice p.ss.ao p.ss.n p.ss.c]∧p.In w.heap.size w:=by
 obtain⟨xs,n,rfl, -,hl,hxl,hf⟩:=DataW.trod_struct Tryz.underlying25 h;rw[show Tryz.prog.cellsOf 25=4 by kernel_rfl]at hl
 obtain⟨c0,c1,c2,c3,rfl⟩:∃c0 c1 c2 c3,cs=[c0,c1,c2,c3]:=by
  match cs,hl with
  | [c0,c1,c2,c3],_=>exact⟨_,_,_,_,rfl⟩
 obtain⟨y0,f0⟩:=field_of hxl hf 0 _ rfl (t:=1) (by kernel_rfl);obtain⟨y1,f1⟩:=field_of hxl hf 1 _ rfl (t:=1) (by kernel_rfl);obtain⟨y2,f2⟩:=field_of hxl hf 2 _ rfl (t:=1) (by kernel_rfl);obtain⟨y3,f3⟩:=field_of hxl hf 3 _ rfl (t:=1) (by kernel_rfl);obtain⟨tk,e0, -,w0⟩:=DataW.trod_int Tryz.underlying3 f0;obtain⟨sD,kD,e1,hsD,hrD,hkD⟩:=open_list (sz:=20) (by decide) Tryz.underlying22 (by kernel_rfl) (fun d:De=>dcvs d d.lo.h d.hi.h) (fun d=>d.In w.heap.size w) (fun m _ cs x h=>open_d m cs x h) f1;obtain⟨sI,kI,e2,hsI,hrI,hkI⟩:=open_list (sz:=15) (by decide) Tryz.underlying23 (by kernel_rfl) (fun s:St=>stvs s.h s.e.h) (fun s=>s.In w.heap.size w) (fun m _ cs x h=>open_s m cs x h) f2;obtain⟨sS,kS,e3,hsS,hrS,hkS⟩:=open_list (sz:=15) (by decide) Tryz.underlying23 (by kernel_rfl) (fun s:St=>stvs s.h s.e.h) (fun s=>s.In w.heap.size w) (fun m _ cs x h=>open_s m cs x h) f3;obtain rfl:c0=_:=List.head_eq_of_cons_eq e0;obtain rfl:c1=_:=List.head_eq_of_cons_eq e1;obtain rfl:c2=_:=List.head_eq_of_cons_eq e2;obtain rfl:c3=_:=List.head_eq_of_cons_eq e3;exact⟨⟨tk,sD,kD,sI,kI,sS,kS⟩,rfl,i64_of_wf w0,⟨hsD,hrD,hkD⟩,⟨hsI,hrI,hkI⟩,⟨hsS,hrS,hkS⟩⟩
theorem open_prog {r:Reach}{bb:Nat}{v:Value}{d:DataW H}{p:List MemPlace}(hv:Value.okWide Tryz.prog w r bb 25 v)(h:DataW.Trod enc Tryz.prog w base spare held 25 v d p):∃q:Pr,v=q.v∧q.In w.heap.size w:=by
 unfold Value.okWide at hv;rw[Tryz.underlying25]at hv;obtain⟨cs,rfl, -, -⟩:=hv;obtain⟨fuel,hf⟩:=h;obtain⟨q,e,hq⟩:=open_p fuel _ _ hf;refine⟨q,?_,hq⟩;have e':cs.toList=_:=e;unfold Pr.v
 congr 1
 exact Array.ext' e'
end
theorem open_stmt {H:Type}{enc:TypeId×Value→H}{w:World}{base:Nat}{spare:Nat→Bool}{held:Bool}{r:Reach}{bb:Nat}{v:Value}{d:DataW H}{p:List MemPlace}(hv:Value.okWide Tryz.prog w r bb 48 v)(h:DataW.Trod enc Tryz.prog w base spare held 48 v d p):∃s:St,v=stv s.h s.e.h∧s.In w.heap.size w:=by
 unfold Value.okWide at hv;rw[Tryz.underlying48]at hv;obtain⟨cs,rfl, -, -⟩:=hv;obtain⟨fuel,hf⟩:=h;obtain⟨q,e,hq⟩:=open_s fuel _ _ hf;refine⟨q,?_,hq⟩;have e':cs.toList=_:=e;unfold stv
 congr 1
 exact Array.ext' e'
end Go.Proofs.YtkbicfffokegeaaGreatDoor
