/-
  ParseBack holds, tied to the program's text. (part 40 of 41) Conditions: none beside what the card ties.
-/
import Derived.Test.YthmlhkllbichgaaGreatDoorWbh
import Derived.Test.YthmlhkllbichgaaGreatDoorWbi
import Derived.Test.YthmlhkllbichgaaGreatDoorWbm
import Derived.Test.YthmlhkllbichgaaGreatDoorWah
import Derived.Test.YthmlhkllbichgaaGreatDoorWaj
import Derived.ProofKit
import Derived.OpenShut
import Derived.ChangeOld
import Derived.LaidMore
import Derived.Stop.Joined
import Derived.Lib.SmallJoins
import Derived.Test.YthmlhkllbichgaaGreatDoorWag
import Derived.Deep.Slices
import Derived.Deep.Fields
import Derived.ChangeSame
import Derived.Test.YthmlhkllbichgaaGreatDoorWao
import Derived.Lay
import Derived.HandedShaped
import Derived.LaidLaws
import Derived.Shelf.Vars
import Derived.Test.YthmlhkllbichgaaGreatDoorWas
import Derived.Test.YthmlhkllbichgaaGreatDoorWbj
namespace Go.Proofs.YthmlhkllbichgaaGreatDoor
set_option maxHeartbeats 16000000
open Go.RowKit
set_option maxRecDepth 100000
def wkA:List UInt8:=[97,32,45,32,98,32,45,32,99,32,60,32,45,100,32,42,32,50]
def wkB:List UInt8:=[97,32,60,32,98,32,60,32,99]
def wkC:List UInt8:=[116,105,99,107,115,32,53,59,32,105,110,112,117,116,32,117,58,32,102,108,111,97,116,32,105,110,32,91,45,49,46,53,44,32,50,93,59,32,118,97,114,32,120,58,32,105,110,116,91,51,93,59,32,105,110,105,116,32,123,32,125,32,115,116,101,112,32,123,32,105,102,32,117,32,60,32,49,46,48,32,123,32,120,91,48,93,32,61,32,49,59,32,125,32,101,108,115,101,32,105,102,32,116,114,117,101,32,123,32,125,32,102,111,114,32,105,32,61,32,45,49,32,46,46,32,50,32,123,32,125,32,125]
def wkT:List UInt8:=[40,40,97,32,45,32,98,41,32,45,32,99,41,32,60,32,40,45,100,32,42,32,50,41]
def ckA (r:Rs Ex):Bool:=match r with
 | .ok a _=>decide (a.h.op=9∧a.h.ps=10∧a.h.s.n=2) && (a.txt prT == wkT)
 | .no _ _=>false
def ckC (r:Rs Pr):Bool:=match r with
 | .ok p _=>decide (p.ticks=5∧p.ds.n=2∧p.ss.n=2∧(p.s 0).h.es.n=1∧(p.d 0).rg=true∧(p.d 0).lo.h.fl=13832806255468478464∧(p.d 1).len=3∧(p.s 1).h.lo = -1)
 | .no _ _=>false
theorem wk_a:ckA (rsX wkA)=true:=by decide +kernel
theorem wk_b:(rsX wkB).er=110∧(rsX wkB).pl=6:=by decide +kernel
theorem wk_c:ckC (rsP wkC)=true:=by decide +kernel
theorem addr_row {a:Addr}{sz b o:Nat}(h:a.add (0*sz)=⟨b,o,none⟩):a=⟨b,o,none⟩:=by
 rw[Nat.zero_mul]at h
 obtain⟨b',o',x⟩:=a
 cases x with
 | none=>simpa [Addr.add] using h
 | some x=>simp[Addr.add]at h
theorem ss_row {B:Nat}{w:World}{s:Sl}{k:Nat→St}(h:SsIn B w s k)(h0:0<s.n):∃b o,s.ao=some ⟨b,o,none⟩∧b<B∧∀i,i<s.n→S15 w b (o+i*15) (k i).h (k i).e.h:=by
 obtain⟨a,b,o,ha,hA,hb,X,I⟩:=h.at h0
 have:=addr_row hA
 subst this
 refine⟨b,o,ha,hb,fun i hi=>?_⟩
 obtain⟨a',b',o',ha',hA',hb',X',I'⟩:=h.at hi
 rw[ha]at ha'
 cases ha'
 have e:(⟨b,o+i*15,none⟩:Addr)=⟨b',o',none⟩:=by rw[←hA',Addr.add_mid]
 cases e
 exact X'
theorem ds_row {B:Nat}{w:World}{s:Sl}{k:Nat→De}(h:DsIn B w s k)(h0:0<s.n):∃b o,s.ao=some ⟨b,o,none⟩∧b<B∧∀i,i<s.n→D20 w b (o+i*20) (k i) (k i).lo.h (k i).hi.h:=by
 obtain⟨a,b,o,ha,hA,hb,X,I⟩:=h.at h0
 have:=addr_row hA
 subst this
 refine⟨b,o,ha,hb,fun i hi=>?_⟩
 obtain⟨a',b',o',ha',hA',hb',X',I'⟩:=h.at hi
 rw[ha]at ha'
 cases ha'
 have e:(⟨b,o+i*20,none⟩:Addr)=⟨b',o',none⟩:=by rw[←hA',Addr.add_mid]
 cases e
 exact X'
theorem wkA_any (w:World)(h:Env9 w):Calls Tryz.prog 13 #[.string ⟨wkA.toArray⟩] w fun r w'=>∃a':Ex,r=.returned (.tuple #[a'.h.v,.int .i64 0,.int .i64 0])∧XO (Fro w.heap.size) a' w'∧(a'.h.op=9∧a'.h.ps=10∧a'.h.s.n=2∧a'.txt prT=wkT)∧Below w.heap.size w w':=by
 have K:=wk_a
 have P:=ppExpr_top ⟨wkA.toArray⟩ w h
 change Calls _ _ _ _ (PTop w (rsX wkA) .no (VX w.heap.size))at P
 generalize rsX wkA=R at *
 cases R with
 | no c p=>cases K
 | ok a s=>
  simp only[ckA,Bool.and_eq_true,decide_eq_true_eq,beq_iff_eq]at K
  refine P.mono ?_
  rintro r w' ⟨v,rfl,⟨a',rfl,xa,ea⟩,hb⟩
  obtain⟨h1,h2,h3⟩:=(Ex.eqv_iff _ _).1 ea
  obtain⟨g1,g2,g3,g4,g5,g6,g7⟩:=Ex.same_iff.1 (Ex.eqv_same ea)
  exact⟨a',rfl,xa,⟨g1.trans K.1.1,h2.symm.trans K.1.2.1,g6.trans K.1.2.2,(Ex.same_txt prT (Ex.eqv_same ea)).trans K.2⟩,hb⟩
theorem wkB_any (w:World)(h:Env9 w):Calls Tryz.prog 13 #[.string ⟨wkB.toArray⟩] w fun r w'=>∃a':Ex,r=.returned (.tuple #[a'.h.v,.int .i64 110,.int .i64 6])∧Below w.heap.size w w':=by
 have K:=wk_b
 have P:=ppExpr_top ⟨wkB.toArray⟩ w h
 change Calls _ _ _ _ (PTop w (rsX wkB) .no (VX w.heap.size))at P
 generalize rsX wkB=R at *
 refine P.mono ?_
 rintro r w' ⟨v,rfl,⟨a',rfl,xa,ea⟩,hb⟩
 exact⟨a',by rw[K.1,K.2],hb⟩
structure FacP (p:Pr):Prop where
 tk:p.ticks=5
 dn:p.ds.n=2
 sn:p.ss.n=2
 es:(p.s 0).h.es.n=1
 rg:(p.d 0).rg=true
 fl:(p.d 0).lo.h.fl=13832806255468478464
 ln:(p.d 1).len=3
 lo:(p.s 1).h.lo = -1
theorem wkC_any (w:World)(h:Env9 w):Calls Tryz.prog 9 #[.string ⟨wkC.toArray⟩] w fun r w'=>∃p':Pr,r=.returned (.tuple #[p'.v,.int .i64 0,.int .i64 0])∧p'.In w'.heap.size w'∧FacP p'∧Below w.heap.size w w':=by
 have K:=wk_c
 have P:=ppParse_any ⟨wkC.toArray⟩ w h
 change Calls _ _ _ _ (PTop w (rsP wkC) noPr (VP w.heap.size))at P
 generalize rsP wkC=R at *
 cases R with
 | no c p=>cases K
 | ok p s=>
  simp only[ckC,decide_eq_true_eq]at K
  obtain⟨k1,k2,k3,k4,k5,k6,k7,k8⟩:=K
  refine P.mono ?_
  rintro r w' ⟨v,rfl,⟨p',rfl,xp,e1,⟨e2,e3⟩,⟨e4,e5⟩,⟨e6,e7⟩⟩,hb⟩
  change p'.ticks=p.ticks at e1
  change p'.ds.n=p.ds.n at e2
  change p'.ss.n=p.ss.n at e6
  have hI:p'.In w'.heap.size w':=⟨xp.1,DsIn.stay xp.2.1 (stay_up _ _) (Nat.le_refl _),SsIn.stay xp.2.2.1 (stay_up _ _) (Nat.le_refl _),SsIn.stay xp.2.2.2 (stay_up _ _) (Nat.le_refl _)⟩
  have d0:=e3 0 (by omega)
  have d1:=e3 1 (by omega)
  have s0:=e7 0 (by omega)
  have s1:=e7 1 (by omega)
  have t0:=St.same_iff.1 (St.eqv_same s0)
  have t1:=St.same_iff.1 (St.eqv_same s1)
  have l0:=Ex.same_iff.1 (Ex.eqv_same d0.2.1)
  exact⟨p',rfl,hI,⟨e1.trans k1,e2.trans k2,e6.trans k3,t0.1.2.2.2.2.2.trans k4,d0.1.2.2.2.2.2.trans k5,l0.2.2.2.1.trans k6,d1.1.2.2.2.2.1.trans k7,t1.1.2.2.1.trans k8⟩,hb⟩
theorem works11_any (w:World)(hE:Env9 w)(hS:SgOk w):Calls Tryz.prog 7 #[] w fun r w'=>r=.returned (.bool true)∧Below w.heap.size w w':=by
 have HE:=Hj hE
 have HS:=Hj hS
 have PA:=Hj wkA_any
 have PB:=Hj wkB_any
 have PC:=Hj wkC_any
 clear hE hS
 go_enter Tryz.func7,Tryz.ntmps7
 go_wp2_with fail
 refine(PA.out w HE.out).mono ?_
 rintro r w1 ⟨a',rfl,xa,fa,b1⟩
 have BLb:=bx_bel (Below.refl w1.heap.size w1) (Nat.le_refl _) (xO a'.h)
 have HXA:=Hj ((xa.bel BLb).out)
 have HG1:Hid ((bx w1 (xO a'.h)).heap[w1.heap.size]? = some (xO a'.h)):=bx_new w1 _
 have B1:=Hj (bel_trans b1 BLb)
 have FA:=Hj fa
 have HE1:=Hj (HE.out.below B1.out)
 clear xa fa b1 BLb
 unfold EH.v
 go_upto_region 2 with fail
 rw[bx_x]
 change (Code.region 2 _ _).wp _ _ _ (bx w1 (xO a'.h))
 generalize w1.heap.size=ga at *
 generalize bx w1 (xO a'.h)=w2 at *
 go_wp2_with fail
 refine(PB.out w2 HE1.out).mono ?_
 rintro r w3 ⟨b',rfl,b3⟩
 have B3:=Hj (bel_trans b3 (bx_bel (Below.refl w3.heap.size w3) (Nat.le_refl _) (xO b'.h)))
 have HE3:=Hj (HE1.out.below B3.out)
 clear b3
 unfold EH.v
 go_upto_region 3 with fail
 rw[bx_x]
 change (Code.region 3 _ _).wp _ _ _ (bx w3 (xO b'.h))
 generalize w3.heap.size=gb at *
 generalize bx w3 (xO b'.h)=w4 at *
 go_wp2_with fail
 refine(PC.out w4 HE3.out).mono ?_
 rintro r w5 ⟨p',rfl,hI,fp,b5⟩
 have BLp:=bx_bel (Below.refl w5.heap.size w5) (Nat.le_refl _) (pO p')
 have B5:=Hj (bel_trans B3.out (bel_trans b5 BLp))
 have HP:=Hj (hI.below BLp (Nat.le_refl _))
 have HGp:Hid ((bx w5 (pO p')).heap[w5.heap.size]? = some (pO p')):=bx_new w5 _
 have GA:=Hj (kept_obj B5.out HG1.out)
 have HXA5:=Hj (HXA.out.below B5.out (Nat.le_refl _))
 have HS5:=Hj ((HS.out.below B1.out).below B5.out)
 have HE5:=Hj (HE1.out.below B5.out)
 have BB:=Hj (bel_trans B1.out B5.out)
 have HSZ:=Hj B5.out.size
 clear hI b5 BLp HG1 HXA B1 B3 HE1 HE3 HE HS PA PB PC
 unfold Pr.v
 go_upto_region 4 with fail
 rw[bx_p]
 change (Code.region 4 _ _).wp _ _ _ (bx w5 (pO p'))
 generalize w5.heap.size=gp_ at *
 generalize bx w5 (pO p')=W at *
 obtain⟨p1,p2,p3,p4⟩:=p_cells HGp.out
 obtain⟨x0,x1,x2,x3,x4,x5,x6⟩:=x_cells GA.out
 obtain⟨bd,od,hbd,hdB,DD⟩:=ds_row HP.out.2.1 (by rw[fp.dn];decide)
 obtain⟨bs,os,hbs,hsB,SS⟩:=ss_row HP.out.2.2.2 (by rw[fp.sn];decide)
 have D0:=DD 0 (by rw[fp.dn];decide)
 have D1:=DD 1 (by rw[fp.dn];decide)
 have S0:=SS 0 (by rw[fp.sn];decide)
 have S1:=SS 1 (by rw[fp.sn];decide)
 rw[FA.out.1]at x0
 rw[FA.out.2.1]at x1
 rw[FA.out.2.2.1]at x6
 rw[hbd,fp.dn]at p2
 rw[hbs,fp.sn]at p4
 rw[fp.tk]at p1
 have d5:=D0.c5
 rw[fp.rg]at d5
 have d10:=D0.c10
 rw[fp.fl]at d10
 have d4:=D1.c4
 rw[fp.ln]at d4
 have s14:=S0.c14
 rw[fp.es]at s14
 have s11:=S1.c11
 rw[fp.lo]at s11
 simp only[Nat.zero_mul,Nat.add_zero,Nat.one_mul]at d5 d10 d4 s14 s11
 have T:=tText_any a' w2.heap.size W HXA5.out HSZ.out HE5.out.env HS5.out (by rw[FA.out.2.2.2];decide)
 unfold EH.v at T
 rw[FA.out.1,FA.out.2.1,FA.out.2.2.1,FA.out.2.2.2]at T
 have TT:=Hj T
 have HF:=Hj fp
 have QQ:=Hj (And.intro p1 (And.intro p2 (And.intro p4 (And.intro d5 (And.intro d10 (And.intro d4 s11))))))
 clear T
 clear D0 D1 S0 S1 DD SS hbd hbs fp
 go_wp2_with fail
 refine TT.out.mono ?_
 rintro r w6 ⟨rfl,b6⟩
 clear p1 p2 p3 p4 x0 x1 x2 x3 x4 x5 x6 d5 d10 d4 s14 s11 TT
 have cc:∀(p:Addr) (v:Value),W.cell? p=some v→w6.cell? p=some v:=fun p v h=>(b6.cell (World.block_lt_of_cell? _ _ h)).trans h
 have p1:=cc _ _ QQ.out.1
 have p2:=cc _ _ QQ.out.2.1
 have p4:=cc _ _ QQ.out.2.2.1
 have d5:=cc _ _ QQ.out.2.2.2.1
 have d10:=cc _ _ QQ.out.2.2.2.2.1
 have d4:=cc _ _ QQ.out.2.2.2.2.2.1
 have s11:=cc _ _ QQ.out.2.2.2.2.2.2
 have BB6:=Hj (bel_trans BB.out b6)
 clear cc b6 QQ BB
 unfold wkT
 go_wp2_with fail
 go_ret
 exact⟨rfl,BB6.out⟩
theorem noPr_wf:PrWf noPr:=⟨⟨Int.le_refl _,by decide⟩,Nat.zero_le _,fun i hi=>absurd hi (Nat.not_lt_zero i),fun i hi=>absurd hi (Nat.not_lt_zero i),fun i hi=>absurd hi (Nat.not_lt_zero i),Nat.zero_le _,Nat.zero_le _⟩
theorem rsP_wf {l:List UInt8}{p:Pr}{s:PS}(h:rsP l=.ok p s):PrWf p:=by
 unfold rsP at h
 split at h
 ·rename_i h0
  exact prog_wf (lexV_ok h0) h
 ·cases h
theorem rsP_long {l:List UInt8}(h:16384<l.length):rsP l=.no 91 0:=by
 have e:lexV l=([],91,0):=by unfold lexV;rw[if_pos h]
 unfold rsP
 rw[e,if_neg (by decide)]
 rfl
theorem xpr_in {L:Nat}{p:Pr}{w:World}(h:XPr (Fro L) p w):p.In w.heap.size w:=⟨h.1,DsIn.stay h.2.1 (stay_up _ _) (Nat.le_refl _),SsIn.stay h.2.2.1 (stay_up _ _) (Nat.le_refl _),SsIn.stay h.2.2.2 (stay_up _ _) (Nat.le_refl _)⟩
theorem prIn_mono {w:World}{p:Pr}{B B':Nat}(h:p.In B w)(hB:B≤B'):p.In B' w:=⟨h.1,h.2.1.mono (fun _ _=>rfl) hB,h.2.2.1.mono (fun _ _=>rfl) hB,h.2.2.2.mono (fun _ _=>rfl) hB⟩
theorem pr_up {p:Pr}{w w':World}(h:p.In w.heap.size w)(hb:Below w.heap.size w w'):p.In w'.heap.size w':=prIn_mono (h.below hb (Nat.le_refl _)) hb.size
theorem lback_walk (s:ByteArray)(w:World)(hE:Env9 w)(hS:SgOk w):Calls Tryz.prog 5 #[.string s] w fun r w'=>r=.returned (.bool true)∧Below w.heap.size w w':=by
 have WK:=Hj (works11_any w hE hS)
 have PP:=Hj fun w hE=>ppParse_any s w hE
 have HE:=Hj hE
 have HS:=Hj hS
 have RW:=Hj fun p q (h:rsP s.data.toList=.ok p q)=>rsP_wf h
 have RN:Hid (∀c q,rsP s.data.toList=.no c q→0≤q∧q≤(s.size:Int)):=fun c q h=>by rw[Lib.size_eq];exact rsP_place h
 clear hE hS
 generalize rsP s.data.toList=Z at *
 go_enter Tryz.func5,Tryz.ntmps5
 go_wp2_with fail
 refine WK.out.mono ?_
 rintro r w1 ⟨rfl,b1⟩
 have B1:=Hj b1
 clear b1 WK
 go_wp2_with fail
 refine(PP.out _ (HE.out.below B1.out)).mono ?_
 rintro r w2 ⟨v,rfl,⟨p',rfl,xp,ep⟩,b2⟩
 have BLp:=bx_bel (Below.refl w2.heap.size w2) (Nat.le_refl _) (pO p')
 have HP:=Hj (pr_up (xpr_in xp) BLp)
 have GP:Hid ((bx w2 (pO p')).heap[w2.heap.size]? = some (pO p')):=bx_new w2 _
 have B2:=Hj (bel_trans B1.out (bel_trans b2 BLp))
 have EP:=Hj ep
 clear xp ep b2 BLp B1 PP
 unfold Pr.v
 go_upto_region 5 with fail
 rw[bx_p]
 change Code.wp _ _ _ _ (bx w2 (pO p'))
 generalize w2.heap.size=gp at *
 generalize bx w2 (pO p')=w3 at *
 by_cases c:Z.er=0
 ·have PW:Hid (PrWf (Z.va noPr)):=by
   show PrWf (Z.va noPr)
   cases Z with
   | ok p q=>exact RW.out p q rfl
   | no c q=>exact noPr_wf
  have SP:Hid (p'.same (Z.va noPr)=true):=Pr.eqv_same EP.out
  rw[c]
  clear c RW RN EP
  generalize Z.va noPr=P at *
  generalize Z.pl=zp at *
  have TX:Hid (p'.txt prT=P.txt prT):=Pr.same_txt prT SP.out
  have P1:=Hj (tPrint_any p' w3 HP.out (HE.out.below B2.out).env (HS.out.below B2.out) (by rw[Pr.same_wt SP.out];exact Pr.wf_wt PW.out) (by rw[TX.out];exact Pr.wf_txt PW.out))
  rw[TX.out]at P1
  obtain⟨p0,p1,p2,p3⟩:=p_cells GP.out
  go_wp2_with fail
  refine P1.out.mono ?_
  rintro r w4 ⟨rfl,b4⟩
  have B4:=Hj b4
  clear b4 P1 p0 p1 p2 p3
  have PP2:=Hj (ppParse_any ⟨(P.txt prT).toArray⟩ w4 ((HE.out.below B2.out).below B4.out))
  change Hid (Calls _ _ _ _ (PTop w4 (rsP (P.txt prT)) noPr (VP w4.heap.size)))at PP2
  have RB:Hid ((P.txt prT).length≤16384→(∃q,rsP (P.txt prT)=.no 111 q)∨∃p' s',rsP (P.txt prT)=.ok p' s'∧p'.same P=true):=fun hl=>rsP_back PW.out hl
  have RL:Hid (16384<(P.txt prT).length→rsP (P.txt prT)=.no 91 0):=fun hl=>rsP_long hl
  have SZ:Hid ((⟨(P.txt prT).toArray⟩:ByteArray).size=(P.txt prT).length):=Lib.size_eq _
  have WP:Hid (P.wt≤90000):=Pr.wf_wt PW.out
  have LP:Hid ((P.txt prT).length≤140737488355328):=Pr.wf_txt PW.out
  have QT:Hid (∀q:Pr,q.same P=true→q.txt prT=P.txt prT):=fun q h=>Pr.same_txt prT h
  generalize rsP (P.txt prT)=Y at *
  generalize (P.txt prT)=T at *
  go_wp2_with fail
  refine PP2.out.mono ?_
  rintro r w5 ⟨v,rfl,⟨q',rfl,xq,eq⟩,b5⟩
  have BLq:=bx_bel (Below.refl w5.heap.size w5) (Nat.le_refl _) (pO q')
  have HQ:=Hj (pr_up (xpr_in xq) BLq)
  have GQ:Hid ((bx w5 (pO q')).heap[w5.heap.size]? = some (pO q')):=bx_new w5 _
  have B5:=Hj (bel_trans B4.out (bel_trans b5 BLq))
  have EQ:=Hj eq
  clear xq eq b5 BLq B4 PP2
  unfold Pr.v
  go_upto_region 9 with fail
  rw[bx_p]
  change Code.wp _ _ _ _ (bx w5 (pO q'))
  generalize w5.heap.size=gq at *
  generalize bx w5 (pO q')=w6 at *
  have BW:=Hj (bel_trans B2.out B5.out)
  by_cases cl:16384<T.length
  ·have E:=RL.out cl
   subst E
   have hsz:(16384:Int)<(T.length:Int):=by omega
   dsimp only[Rs.er,Rs.pl]
   go_wp2_with fail
   go_ret
   exact⟨rfl,BW.out⟩
  ·have hsz:¬(16384:Int)<(T.length:Int):=by omega
   have RB2:=Hj (RB.out (by omega))
   clear RB RL cl
   cases Y with
   | no c q=>
    have hc:c=111:=by
     rcases RB2.out with⟨q',h⟩|⟨p',s',h, -⟩
     ·cases h;rfl
     ·cases h
    subst hc
    dsimp only[Rs.er,Rs.pl]
    go_wp2_with fail
    go_ret
    exact⟨rfl,BW.out⟩
   | ok q sq=>
    have SQ:Hid (q'.same P=true):=by
     rcases RB2.out with⟨q',h⟩|⟨p',s',h,hs⟩
     ·cases h
     ·cases h;exact Pr.trans (Pr.eqv_same EQ.out) hs
    clear RB2 EQ
    dsimp only[Rs.er,Rs.pl]
    have HP6:=Hj (pr_up HP.out B5.out)
    have GP6:=Hj (kept_obj B5.out GP.out)
    obtain⟨p0,p1,p2,p3⟩:=p_cells GP6.out
    obtain⟨q0,q1,q2,q3⟩:=p_cells GQ.out
    have TS:=Hj (tSame_any w6.heap.size p' q' w6 HP6.out HQ.out (Nat.le_refl _))
    rw[Pr.trans SP.out (Pr.symm SQ.out)]at TS
    go_wp2_with fail
    refine TS.out.mono ?_
    rintro r w7 ⟨rfl,b7⟩
    have B7:=Hj b7
    clear b7 TS p0 p1 p2 p3 q0 q1 q2 q3
    obtain⟨q0,q1,q2,q3⟩:=p_cells (kept_obj B7.out GQ.out)
    have P2:=Hj (tPrint_any q' w7 (pr_up HQ.out B7.out) ((HE.out.below BW.out).below B7.out).env ((HS.out.below BW.out).below B7.out) (by rw[Pr.same_wt SQ.out];exact WP.out) (by rw[QT.out q' SQ.out];exact LP.out))
    rw[QT.out q' SQ.out]at P2
    go_wp2_with fail
    refine P2.out.mono ?_
    rintro r w8 ⟨rfl,b8⟩
    have B8:=Hj (bel_trans BW.out (bel_trans B7.out b8))
    clear b8 P2 q0 q1 q2 q3
    go_wp2_with fail
    go_ret
    exact⟨rfl,B8.out⟩
 ·cases Z with
  | ok p q=>exact absurd rfl c
  | no e q=>
   have he:(e == 0)=false:=by simpa [Rs.er] using c
   obtain⟨h0,h1⟩:=RN.out e q rfl
   clear c RW RN EP
   dsimp only[Rs.er,Rs.pl]
   go_wp2_with fail
   go_ret
   exact⟨rfl,B2.out⟩
theorem lback_card (s:ByteArray)(w:World)(hE:Env9 w∧SgOk w):Calls Tryz.prog 5 #[.string s] w fun r w'=>r=.returned (.bool true)∧Below w.heap.size w w':=lback_walk s w hE.1 hE.2
end Go.Proofs.YthmlhkllbichgaaGreatDoor
namespace Go.Proofs.YthmlhkllbichgaaGreatDoor
set_option maxHeartbeats 16000000
open Go.ChangeShapes Go.WideShapes Go.ChangeAt Go.RowKit Go.Joins
set_option maxRecDepth 100000
theorem own:ownKnob Tryz.prog.godebug=none:=by kernel_rfl
section
variable {H:Type} {enc:TypeId×Value→H} {w:World} {base:Nat} {spare:Nat→Bool} {held:Bool} {r:Reach} {bb:Nat} {v:Value} {d:DataW H} {p:List MemPlace}
end
theorem gTab:Tryz.prog.globalNamed "math/bits.deBruijn32tab" = some 10:=by kernel_rfl
theorem tTab:(Tryz.prog.globals[10]?).map (·.type)=some 313:=by kernel_rfl
theorem tab_at (l:List (DataW Unit))(hl:Rows.laid_math_bits_deBruijn32tab=DataW.agg l)(j:Nat)(hj:j<32):l[j]? = some (.lit (.int .u8 ((Lib.deBruijn32tab.getD j 0:Nat):Int))):=by
 unfold Rows.laid_math_bits_deBruijn32tab at hl
 injection hl with hl
 subst hl
 match j,hj with
 | 0,_=>rfl
 | 1,_=>rfl
 | 2,_=>rfl
 | 3,_=>rfl
 | 4,_=>rfl
 | 5,_=>rfl
 | 6,_=>rfl
 | 7,_=>rfl
 | 8,_=>rfl
 | 9,_=>rfl
 | 10,_=>rfl
 | 11,_=>rfl
 | 12,_=>rfl
 | 13,_=>rfl
 | 14,_=>rfl
 | 15,_=>rfl
 | 16,_=>rfl
 | 17,_=>rfl
 | 18,_=>rfl
 | 19,_=>rfl
 | 20,_=>rfl
 | 21,_=>rfl
 | 22,_=>rfl
 | 23,_=>rfl
 | 24,_=>rfl
 | 25,_=>rfl
 | 26,_=>rfl
 | 27,_=>rfl
 | 28,_=>rfl
 | 29,_=>rfl
 | 30,_=>rfl
 | 31,_=>rfl
 | n+32,h=>omega
end Go.Proofs.YthmlhkllbichgaaGreatDoor
namespace Go.Proofs.YthmlhkllbichgaaGreatDoor
set_option maxHeartbeats 16000000
open Go.ChangeShapes Go.WideShapes Go.ChangeAt Go.RowKit Go.Joins Go.Deep
set_option maxRecDepth 100000
section
variable {H:Type} {enc:TypeId×Value→H} {w:World} {base:Nat} {spare:Nat→Bool} {held:Bool} {r:Reach} {bb:Nat} {v:Value} {d:DataW H} {p:List MemPlace}
end
end Go.Proofs.YthmlhkllbichgaaGreatDoor
namespace Go.Proofs.YthmlhkllbichgaaGreatDoor
set_option maxHeartbeats 16000000
open Go.ChangeShapes Go.WideShapes Go.ChangeAt Go.RowKit Go.Joins
set_option maxRecDepth 100000
instance:Inhabited Ex:=⟨.no⟩
instance:Inhabited St:=⟨.no⟩
instance:Inhabited De:=⟨⟨0,false,[],0,0,false,.no,.no⟩⟩
section
variable {H:Type} {enc:TypeId×Value→H} {w:World} {base:Nat} {spare:Nat→Bool} {held:Bool}
end
abbrev theLaid8:List (String×DataW Unit):=[("math/bits.deBruijn32tab",Rows.laid_math_bits_deBruijn32tab),("math/bits.deBruijn64tab",Rows.laid_math_bits_deBruijn64tab),("internal/strconv.uint64pow10",Rows.laid_internal_strconv_uint64pow10),("unicode/utf8.acceptRanges",Rows.laid_unicode_utf8_acceptRanges),("strconv.ErrRange",Rows.laid_strconv_ErrRange),("strconv.ErrSyntax",Rows.laid_strconv_ErrSyntax),("unicode.White_Space",Rows.laid_unicode_White_Space),("strings.asciiSpace",Rows.laid_strings_asciiSpace),("flyball/tree.signs",Rows.laid_flyball_tree_signs),("unicode/utf8.first",Rows.laid_unicode_utf8_first)]
theorem pow10_type:(Tryz.prog.globals[8]?).map (·.type)=some 289:=by kernel_rfl
theorem pow10_laid:(Rows.laid_internal_strconv_uint64pow10:DataW Unit)=Lib.tabData .u64 Lib.pow10Tab:=by kernel_rfl
theorem sign_at (xs:List (DataW Unit))(h:(Rows.laid_flyball_tree_signs:DataW Unit)=.agg xs)(j:Nat)(hj:j<12):xs[j]? = some (.lit (.string (signB ((j:Int)+5)))):=by
 have e:xs=[.lit (.string [43]),.lit (.string [45]),.lit (.string [42]),.lit (.string [47]),.lit (.string [60]),.lit (.string [60,61]),.lit (.string [61,61]),.lit (.string [33,61]),.lit (.string [62]),.lit (.string [62,61]),.lit (.string [38,38]),.lit (.string [124,124])]:=(DataW.agg.inj h).symm
 subst e
 match j,hj with
 | 0,_=>rfl
 | 1,_=>rfl
 | 2,_=>rfl
 | 3,_=>rfl
 | 4,_=>rfl
 | 5,_=>rfl
 | 6,_=>rfl
 | 7,_=>rfl
 | 8,_=>rfl
 | 9,_=>rfl
 | 10,_=>rfl
 | 11,_=>rfl
def E11 (W:World):Prop:=Env9 W∧SgOk W
theorem tabs_of_laid8 {W:World}(h:laidMetH Tryz.prog theLaid8 W):(TabOk W∧Lib.TabIs Tryz.prog W "internal/strconv.uint64pow10" .u64 Lib.pow10Tab)∧Lib.TabIs Tryz.prog W "strings.asciiSpace" .u8 Lib.asciiSpaceTab∧(∃ev,W.cell? ⟨7,0,none⟩=some ev∧(ev=.nilIface∨∃te pe,ev=.iface te pe))∧SgOk W:=by
 rw[MakeChecks.laidMetH_plain _ _ _ (by kernel_rfl)]at h
 obtain⟨ps,⟨g0,t0,cs0,f0,p0,q0,hg0,ht0,hv0,hd0,⟨g1,t1,cs1,f1,p1,q1,hg1,ht1,hv1,hd1,⟨g2,t2,cs2,f2,p2,q2,hg2,ht2,hv2,hd2,⟨g3,t3,cs3,f3,p3,q3,hg3,ht3,hv3,hd3,⟨g4,t4,cs4,f4,p4,q4,hg4,ht4,hv4,hd4,⟨g5,t5,cs5,f5,p5,q5,hg5,ht5,hv5,hd5,⟨g6,t6,cs6,f6,p6,q6,hg6,ht6,hv6,hd6,⟨g7,t7,cs7,f7,p7,q7,hg7,ht7,hv7,hd7,⟨g8,t8,cs8,f8,p8,q8,hg8,ht8,hv8,hd8,_,_⟩,_⟩,_⟩,_⟩,_⟩,_⟩,_⟩,_⟩,_⟩,_⟩:=h
 refine⟨⟨?_,?_⟩,?_,?_,?_⟩
 ·obtain rfl:=Option.some.inj (gTab.symm.trans hg0)
  obtain rfl:=Option.some.inj (tTab.symm.trans ht0)
  obtain⟨xs,m1,rfl,hx1,hlen,hn,hel⟩:=DataW.trod_array Tryz.underlying313 hd0
  have c5:Tryz.prog.cellsOf 5=1:=by kernel_rfl
  simp only[Prod.mk.injEq]at hx1
  have hx2:Rows.laid_math_bits_deBruijn32tab=DataW.agg (xs.map (·.1)):=hx1.1
  intro j hj
  rw[World.var?_cell hg0 hv0 j]
  have he:=hel j hj
  rw[c5,Nat.mul_one]at he
  have hjx:j<xs.length:=by omega
  rw[List.getElem?_eq_getElem hjx]at he
  obtain⟨k,e1,e2,_⟩:=DataW.trod_int Tryz.underlying5 he
  have e3:(xs.map (·.1))[j]? = some (.lit (.int .u8 k)):=by rw[List.getElem?_map,List.getElem?_eq_getElem hjx,e2];rfl
  have e5:=(tab_at _ hx2 j hj).symm.trans e3
  simp only[Option.some.injEq,DataW.lit.injEq,Lit.int.injEq,true_and]at e5
  have e6:cs0.toList[j]? = some (.int .u8 k):=by
   have:((cs0.toList.drop j).take 1)[0]? = some (.int .u8 k):=by rw[e1];rfl
   rw[List.getElem?_take,if_pos (by decide),List.getElem?_drop]at this
   simpa using this
  rw[←Array.getElem?_toList,e6,e5]
 ·obtain rfl:=Option.some.inj (pow10_var.symm.trans hg2)
  obtain rfl:=Option.some.inj (pow10_type.symm.trans ht2)
  rw[pow10_laid]at hd2
  unfold Lib.TabIs
  rw[hv2,←Lib.cells_of_tab Tryz.underlying289 Tryz.underlying37 (by kernel_rfl) (by kernel_rfl) hd2]
 ·obtain rfl:=Option.some.inj ((show Tryz.prog.globalNamed "strings.asciiSpace" = some 0 by kernel_rfl).symm.trans hg7)
  obtain rfl:=Option.some.inj ((show(Tryz.prog.globals[0]?).map (·.type)=some 132 by kernel_rfl).symm.trans ht7)
  rw[show(Rows.laid_strings_asciiSpace:DataW Unit)=Lib.tabData .u8 Lib.asciiSpaceTab by kernel_rfl]at hd7
  unfold Lib.TabIs
  rw[hv7,←Lib.cells_of_tab Tryz.underlying132 Tryz.underlying5 (by kernel_rfl) (by kernel_rfl) hd7]
 ·obtain rfl:=Option.some.inj ((show Tryz.prog.globalNamed "strconv.ErrRange" = some 7 by kernel_rfl).symm.trans hg4)
  obtain rfl:=Option.some.inj ((show(Tryz.prog.globals[7]?).map (·.type)=some 120 by kernel_rfl).symm.trans ht4)
  obtain⟨f',u,v,e, -, -⟩:=iface_of_trod Tryz.underlying120 hd4
  have hc:=World.var?_cell hg4 hv4 0
  have e0:cs4[0]? = some (.iface u v):=by rw[←Array.getElem?_toList,e];rfl
  exact⟨_,hc.trans e0,.inr ⟨u,v,rfl⟩⟩
 ·obtain rfl:=Option.some.inj ((show Tryz.prog.globalNamed "flyball/tree.signs" = some 1 by kernel_rfl).symm.trans hg8)
  obtain rfl:=Option.some.inj ((show(Tryz.prog.globals[1]?).map (·.type)=some 166 by kernel_rfl).symm.trans ht8)
  obtain⟨xs,m1,rfl,hx1,hlen,hn,hel⟩:=DataW.trod_array Tryz.underlying166 hd8
  have c9:Tryz.prog.cellsOf 9=1:=by kernel_rfl
  simp only[Prod.mk.injEq]at hx1
  have hx2:Rows.laid_flyball_tree_signs=DataW.agg (xs.map (·.1)):=hx1.1
  intro j hj
  rw[World.var?_cell hg8 hv8 j]
  have he:=hel j hj
  rw[c9,Nat.mul_one]at he
  have hjx:j<xs.length:=by omega
  rw[List.getElem?_eq_getElem hjx]at he
  obtain⟨s,e1,e2,_⟩:=DataW.trod_string Tryz.underlying9 he
  have e3:(xs.map (·.1))[j]? = some (.lit (.string s.data.toList)):=by rw[List.getElem?_map,List.getElem?_eq_getElem hjx,e2];rfl
  have e5:=(sign_at _ hx2 j hj).symm.trans e3
  simp only[Option.some.injEq,DataW.lit.injEq,Lit.string.injEq]at e5
  have e6:cs8.toList[j]? = some (.string s):=by
   have:((cs8.toList.drop j).take 1)[0]? = some (.string s):=by rw[e1];rfl
   rw[List.getElem?_take,if_pos (by decide),List.getElem?_drop]at this
   simpa using this
  rw[←Array.getElem?_toList,e6,e5]
theorem env_of8 {W:World}(h:laidMetH Tryz.prog theLaid8 W)(hs:W.ShapedOpen Tryz.prog):E11 W:=
 ⟨⟨⟨(tabs_of_laid8 h).1.1,(tabs_of_laid8 h).1.2,cell_of_shapedOpen_int (zero:=#[.int .i64 0]) (t:=3) hs (of_decide_eq_true (by kernel_rfl)) (by kernel_rfl) rfl (by kernel_rfl) (by kernel_rfl) Tryz.underlying3⟩,(tabs_of_laid8 h).2.1,(tabs_of_laid8 h).2.2.1⟩,(tabs_of_laid8 h).2.2.2⟩
theorem laid8_met (os:Os)(args:Array Value):laidMetH Tryz.prog theLaid8 ((World.laidAll Tryz.prog os theLaid8).forCall (fun _ _=>0) ⟨#[],args,[]⟩).memory:=by
 rw[MakeChecks.laidMetH_plain _ _ _ (by kernel_rfl)]
 exact laidMet_laidAll _ (by kernel_rfl) (by kernel_rfl)
theorem lift8 {H:Type}{enc:TypeId×Value→H}{os:Os}{f:FuncId}{fn:Func}{s:ChangeSpec}(started:os.Started)(noInit:Tryz.checked.prog.inits.idxOf? f=none)(hfn:Tryz.checked.prog.funcs[f]? = some fn)
  (witness:∃(w:World) (tape:Tape) (i:Input),w.os=os∧(w.forCall tape i).Shaped Tryz.checked.prog∧i.vars=[]∧Input.okWide Tryz.checked.prog (w.forCall tape i) .any w.heap.size f i ∧
   ((s.pre enc Tryz.checked.prog fn [] false (w.forCall tape i).memory i.args∧laidMetH Tryz.prog theLaid8 (w.forCall tape i).memory)∧sizedMet enc Tryz.checked.prog fn (OpenSpec.ofChange s) false (w.forCall tape i).memory i.args)∧({}:Assume).holds Tryz.checked.prog (lone (Frame.enter Tryz.checked.prog f i.args .normal) [] (w.forCall tape i)))
  (walk:∀(W:World) (base:Nat) (args:Array Value) (ds gs:List (DataW H)) (before:List MemPlace),
   (∀(j:Nat) t v,fn.params[j]? = some t→args[j]? = some v→Value.okWide Tryz.checked.prog W .any base t v)→DataW.Whole enc Tryz.checked.prog fn.params.toList s.vars false W args.toList ds gs before→E11 W →
   Calls Tryz.checked.prog f args W fun e W'=>∃v,e=.returned v∧s.post enc Tryz.checked.prog fn false true false false W args v W') :
  ReturnsInHanded {} Tryz.checked os f .any (fun w args=>(s.pre enc Tryz.checked.prog fn [] false w args∧laidMetH Tryz.prog theLaid8 w)∧sizedMet enc Tryz.checked.prog fn (OpenSpec.ofChange s) false w args) (s.post enc Tryz.checked.prog fn false true false false):=by
 refine returnsInHanded_of_calls own started noInit witness ?_
 intro w tape i _ hsh _ hok hpre _
 obtain⟨_,_,_,fn',hfn',_,_,_,_,hval⟩:=hok
 obtain rfl:fn'=fn:=Option.some.inj (hfn'.symm.trans hfn)
 obtain⟨⟨⟨ds,gs,before,hw, -⟩,hx⟩, -⟩:=hpre
 refine(walk (w.forCall tape i) w.heap.size i.args ds gs before hval (DataW.Whole.of_heap (w':=w.forCall tape i) (by rfl) hw) (env_of8 (hx.of_heap (by rfl)) hsh)).mono fun e W' ⟨v,he,hp⟩=>?_
 subst he
 exact ChangeSpec.post_blind hp
end Go.Proofs.YthmlhkllbichgaaGreatDoor
