/-
  Whatever program is handed in, CheckChecks answers true. (part 25 of 38) Conditions: none beside what the card ties.
-/
import Derived.Test.YtkbicfffokegeaaGreatDoorCax
namespace Go.Proofs.YtkbicfffokegeaaGreatDoor
set_option maxHeartbeats 16000000
open Go.RowKit
set_option maxRecDepth 100000
def PC {α:Type}(R d:Nat)(X:Nat→Prop)(w:World)(r:Rs α)(G:α→World→Prop)(e:Ending)(w':World):Prop:=
 match r with
 | .ok a s=>e=.returned (.tuple #[])∧G a w'∧Rdr R d s w'∧Fx X w.heap.size w w'
 | .no c p=>e=.panicked (flP c p)∧Fx X w.heap.size w w'
theorem Rdr.cell1 {R d:Nat}{s:PS}{w:World}(h:Rdr R d s w):w.cell? ⟨R,1,none⟩=some (.int .i64 (d:Int))∧w.frozen? ⟨R,1,none⟩=false:=by
 obtain⟨T,o,c,C⟩:=h.rc;exact⟨C.blk.cell 1,C.blk.frozen 1⟩
theorem Rdr.depth {R d d':Nat}{s:PS}{w:World}(h:Rdr R d s w)(hd:d'≤24):Rdr R d' s (w.setCell ⟨R,1,none⟩ (.int .i64 (d':Int))):=by
 obtain⟨T,o,c,C⟩:=h.rc;exact C.nums (C.blk.set_ 1 (.int .i64 (d':Int))) (Below.heap_setCell _ _ _ _ (Nat.ne_of_lt C.tr)) C.ns C.nx hd
theorem mB (R:Nat)(s:PS)(f:Value)(w:World)(h:Rdr R 24 s w) :
  Calls Tryz.prog 125 #[.pointer (some ⟨R,0,none⟩),f] w fun e w'=>e=.panicked (flP 111 s.hd.ps)∧Below w.heap.size w w':=by
 have ft:=fun w=>oX s.hd w;have c1:w.cell? ⟨R,1,none⟩=some (.int .i64 24):=h.cell1.1;have HR:=Hj h;clear h;go_enter Tryz.func125,Tryz.ntmps125;go_wp2_with fail;refine(cI R 24 s w HR.out).mono ?_;rintro r w1 ⟨rfl,hb⟩;have HB:=Hj hb;clear hb;go_wp2_with fail;refine(mA _ _ _).mono ?_;rintro r w2 ⟨rfl,rfl⟩;go_wp2_with fail;exact⟨rfl,rfl,HB.out⟩
theorem nC {α:Type}(R d n:Nat)(caps:Array Value)(X:Nat→Prop)(s:PS)(r:Rs α)(G:α→World→Prop)(hn:jH n)(hX:X R)(hG:∀a w1 w2,G a w1→Fx (On R) w1.heap.size w1 w2→G a w2)(w:World)(h:Rdr R d s w)(hd:d<24)
  (H:∀w1,Rdr R (d+1) s w1→Fx (On R) w.heap.size w w1→Calls Tryz.prog n caps w1 (PC R (d+1) X w1 r G)) :
  Calls Tryz.prog 125 #[.pointer (some ⟨R,0,none⟩),.func (.func n) #[] caps] w (PC R d X w r G):=by
 have hcn:=hn caps;obtain⟨c1,z1⟩:=h.cell1;have hd2:¬(d:Int)=24:=by omega
 have ov:IntKind.i64.wrap ((d:Int)+1)=(d:Int)+1:=by rw[IntKind.wrap_i64];omega
 have ov2:wrap64 (d:Int)=(d:Int):=by unfold wrap64;omega
 have HR:=Hj (h.depth (d':=d+1) hd);have HF:Hid (Fx (On R) w.heap.size w (w.setCell ⟨R,1,none⟩ (.int .i64 ((d+1:Nat):Int)))):=bJ (X:=On R) (Fx.refl _ _ _) (p:=⟨R,1,none⟩) (.inl rfl) _;have HD:=Hj hd;have HG:=Hj hG;have HX:=Hj hX;clear h hd hn hG hX;go_enter Tryz.func125,Tryz.ntmps125;go_upto_region 3 with fail;change (Code.region 3 _ _).wp _ _ _ (w.setCell ⟨R,1,none⟩ (.int .i64 ((d+1:Nat):Int)));generalize w.setCell ⟨R,1,none⟩ (.int .i64 ((d+1:Nat):Int))=w1 at *;have HC:=Hj (H w1 HR.out HF.out);clear H;go_wp2_with fail;refine HC.out.mono ?_;intro e w2 hpo
 cases r with
 | no c q=>
  obtain⟨rfl,f2⟩:=hpo;have HF2:=Hj (aJ (HF.out.mono (aD _) (fun k _ (x:k=R)=>by rw[x];exact HX.out)) f2);clear f2;go_wp2_with fail;exact⟨rfl,rfl,HF2.out⟩
 | ok a s2=>
  obtain⟨rfl,g,h2,f2⟩:=hpo;have HF2:=Hj (aJ (HF.out.mono (aD _) (fun k _ (x:k=R)=>by rw[x];exact HX.out)) f2);have d1:w2.cell? ⟨R,1,none⟩=some (.int .i64 ((d:Int)+1)):=h2.cell1.1;have y1:=h2.cell1.2;have HR2:=Hj (h2.depth (d':=d) (by have:=HD.out;omega));have HG2:=Hj (HG.out a w2 _ g (bJ (X:=On R) (Fx.refl _ _ _) (p:=⟨R,1,none⟩) (.inl rfl) (.int .i64 (d:Int))));have HF3:=Hj (bJ HF2.out (p:=⟨R,1,none⟩) (.inl HX.out) (.int .i64 (d:Int)));clear f2 g h2 HF2;go_wp2_with fail;exact bodyPost_end (results_none rfl _ _ _) rfl ⟨rfl,HG2.out,HR2.out,HF3.out⟩
def fB {α:Type}(d:Nat)(o c:List UInt8)(p:PS→Rs α)(s:PS):Rs α:=
 if s.hd.tx=o then(if d=24 then .no 111 s.hd.ps else(p s.tk).bind fun a s'=>(cF c s').bind fun _ s''=>.ok a s'')else bad s
theorem aCU:jH 126:=dJ (by rfl) (by kernel_rfl) rfl
theorem aDa {α:Type}(R d n b0 b1 b2 B:Nat)(c:List UInt8)(hc:c≠[])(caps:Array Value)(X:Nat→Prop)(s:PS)(r:Rs α)(G:α→World→Prop)(hn:jH n)(hX:X R)(hXB:∀k,X k→k<B)(hG:∀a w1 w2,G a w1→Fx (On R) w1.heap.size w1 w2→G a w2)
  (w:World) (h:Rdr R d s w) (hk:s.hd.kd≠0) (h0:Blk w b0 108 #[.pointer (some ⟨R,0,none⟩)]) (h1:Blk w b1 1 #[.func (.func n) #[] caps]) (h2:Blk w b2 9 #[.string ⟨c.toArray⟩]) (hb0:B≤b0) (hb1:B≤b1) (hb2:B≤b2)
  (H:∀w1,Rdr R d s.tk w1→Fx (On R) w.heap.size w w1→Calls Tryz.prog n caps w1 (PC R d X w1 r G)) :
  Calls Tryz.prog 126 #[.pointer (some ⟨b0,0,none⟩),.pointer (some ⟨b1,0,none⟩),.pointer (some ⟨b2,0,none⟩)] w (PC R d X w (r.bind fun a s'=>(cF c s').bind fun _ s''=>.ok a s'') G):=by
 have hcn:=hn caps;have c0:w.cell? ⟨b0,0,none⟩=some (.pointer (some ⟨R,0,none⟩)):=h0.cell 0;have HB:=Hj (And.intro h0 (And.intro h1 h2));have HR:=Hj h;have HK:=Hj hk;have HXX:=Hj (And.intro hX (And.intro hXB hG));have HN:=Hj (And.intro hb0 (And.intro hb1 hb2));generalize hZ:(r.bind fun a s'=>(cF c s').bind fun _ s''=>Rs.ok a s'')=Z;have HZ:=Hj hZ;clear h0 h1 h2 h hk hX hXB hG hb0 hb1 hb2 hn hZ;go_enter Tryz.func126,Tryz.ntmps126;go_wp2_with fail;refine(dG R d s w HR.out HK.out).mono ?_;rintro e w1 ⟨rfl,h1,f1⟩;have ne:∀ {b},B≤b→¬On R b:=fun {b} hb (x:b=R)=>by have:=HXX.out.2.1 R HXX.out.1;omega
 have k0:=f1.blk HB.out.1 HB.out.1.lt (ne HN.out.1);have k1:=f1.blk HB.out.2.1 HB.out.2.1.lt (ne HN.out.2.1);have k2:=f1.blk HB.out.2.2 HB.out.2.2.lt (ne HN.out.2.2);have HC:=Hj (H w1 h1 f1);have HF1:Hid (Fx X w.heap.size w w1):=f1.mono (aD _) (fun k _ (x:k=R)=>by rw[x];exact HXX.out.1);have HB1:=Hj (And.intro k0 (And.intro k1 k2));have d1:w1.cell? ⟨b1,0,none⟩=some (.func (.func n) #[] caps):=k1.cell 0;clear HB HR k0 k1 k2 f1 h1 c0 ne H;go_wp2_with fail;refine HC.out.mono ?_;intro e w2 hpo;clear HC d1
 cases r with
 | no c' q=>
  obtain⟨rfl,f2⟩:=hpo;have HF2:=Hj (aJ HF1.out f2);have E:Hid (Z=.no c' q):=by show Z=_;rw[←HZ.out];rfl
  clear f2 HZ;go_wp2_with fail;refine⟨rfl,?_⟩;rw[E.out];exact⟨rfl,HF2.out⟩
 | ok a s2=>
  obtain⟨rfl,g,h2,f2⟩:=hpo;have ne:∀ {b},B≤b→¬X b:=fun {b} hb x=>by have:=HXX.out.2.1 b x;omega
  have k0:=f2.blk HB1.out.1 HB1.out.1.lt (ne HN.out.1);have k2:=f2.blk HB1.out.2.2 HB1.out.2.2.lt (ne HN.out.2.2);have d0:w2.cell? ⟨b0,0,none⟩=some (.pointer (some ⟨R,0,none⟩)):=k0.cell 0;have d2:w2.cell? ⟨b2,0,none⟩=some (.string ⟨c.toArray⟩):=k2.cell 0;have HF2:=Hj (aJ HF1.out f2);have HR2:=Hj h2;have HG2:=Hj g;have E:Hid ((cF c s2).bind (fun _ s''=>.ok a s'')=Z):=by show _=Z;rw[←HZ.out];rfl
  clear f2 g h2 k0 k2 ne HF1 HB1 HZ;go_wp2_with fail;refine(bU R d s2 c hc w2 HR2.out).mono ?_;intro e w3 hpo
  cases hres:cF c s2 with
  | no c' q=>
   rw[hres]at hpo;obtain⟨rfl,f3⟩:=hpo;have HF3:=Hj (aJ HF2.out (f3.mono (aD _) (fun k _ (x:k=R)=>by rw[x];exact HXX.out.1)));have E3:Hid (Z=.no c' q):=by show Z=_;rw[←E.out,hres];rfl
   clear f3 hres;go_wp2_with fail;refine⟨rfl,?_⟩;rw[E3.out];exact⟨rfl,HF3.out⟩
  | ok u s3=>
   rw[hres]at hpo;obtain⟨v,rfl,hv,h3,f3⟩:=hpo;unfold V0 at hv;subst hv;have HF3:=Hj (aJ HF2.out (f3.mono (aD _) (fun k _ (x:k=R)=>by rw[x];exact HXX.out.1)));have E3:Hid (Z=.ok a s3):=by show Z=_;rw[←E.out,hres];rfl
   have HG3:=Hj (HXX.out.2.2 a w2 w3 HG2.out f3);have HR3:=Hj h3;clear f3 hres h3;go_wp2_with fail;refine bodyPost_end (results_none rfl _ _ _) rfl ?_;rw[E3.out];exact⟨rfl,HG3.out,HR3.out,HF3.out⟩
def oR (R:Nat):Obj:=.cells #[.pointer (some ⟨R,0,none⟩)] 108
def oT (c:List UInt8):Obj:=.cells #[.string ⟨c.toArray⟩] 9
def oF (n:Nat)(caps:Array Value):Obj:=.cells #[.func (.func n) #[] caps] 1
theorem fR {α:Type}(R d n:Nat)(o c:List UInt8)(ho:o≠[])(hc:c≠[])(caps:Array Value)(X:Nat→Prop)(s:PS)(p:PS→Rs α)(G:α→World→Prop)(hn:jH n)(hX:X R)(hG:∀a w1 w2,G a w1→Fx (On R) w1.heap.size w1 w2→G a w2)
  (w:World) (h:Rdr R d s w) (hXB:∀k,X k→k<w.heap.size)
  (H:d<24→∀w1,Rdr R (d+1) s.tk w1→Fx (On R) w.heap.size w w1→Calls Tryz.prog n caps w1 (PC R (d+1) X w1 (p s.tk) G)) :
  Calls Tryz.prog 104 #[.pointer (some ⟨R,0,none⟩),.string ⟨o.toArray⟩,.string ⟨c.toArray⟩,.func (.func n) #[] caps] w (PC R d X w (fB d o c p s) G):=by
 have hmf:∀(fn:Fn) (first cap:Array Value) (w:World),(Instr.makeFunc fn first cap).run Tryz.prog w=.ok (.func fn first cap) w:=fun _ _ _ _=>rfl;have BL:Below w.heap.size w (((w.alloc (oR R)).alloc (oT c)).alloc (oF n caps)):=aI (aI (aY w _) _) _;have k0:Blk (((w.alloc (oR R)).alloc (oT c)).alloc (oF n caps)) w.heap.size 108 #[.pointer (some ⟨R,0,none⟩)]:=((Blk.new w _ _).alloc (oT c)).alloc (oF n caps)
 have k2:Blk (((w.alloc (oR R)).alloc (oT c)).alloc (oF n caps)) (w.heap.size+1) 9 #[.string ⟨c.toArray⟩]:=by
  have:=(Blk.new (w.alloc (oR R)) 9 #[.string ⟨c.toArray⟩]).alloc (oF n caps);rw[World.size_alloc]at this;exact this
 have k1:Blk (((w.alloc (oR R)).alloc (oT c)).alloc (oF n caps)) (w.heap.size+2) 1 #[.func (.func n) #[] caps]:=by
  have:=Blk.new ((w.alloc (oR R)).alloc (oT c)) 1 #[.func (.func n) #[] caps];rw[World.size_alloc,World.size_alloc]at this;exact this
 have HK:=Hj (And.intro k0 (And.intro k1 k2));have c0:(((w.alloc (oR R)).alloc (oT c)).alloc (oF n caps)).cell? ⟨w.heap.size,0,none⟩=some (.pointer (some ⟨R,0,none⟩)):=k0.cell 0;have HR:=Hj (h.below BL h.lt);have HF:Hid (Fx (On R) w.heap.size w (((w.alloc (oR R)).alloc (oT c)).alloc (oF n caps))):=Fx.of BL;have HXX:=Hj (And.intro hX (And.intro hXB hG));have HH:=Hj H;have HLT:=Hj h.lt;have HD:=Hj h.deep;have HN:=Hj hn;clear BL k0 k1 k2 h hX hXB hG H hn;generalize hZ:fB d o c p s=Z;have HZ:=Hj hZ;clear hZ;go_enter Tryz.func104,Tryz.ntmps104;go_upto_region 1 with fail;change (Code.region 1 _ _).wp _ _ _ (((w.alloc (oR R)).alloc (oT c)).alloc (oF n caps));generalize ((w.alloc (oR R)).alloc (oT c)).alloc (oF n caps)=wx at *;go_wp2_with fail;refine(dZ R d s o wx HR.out).mono ?_;rintro e w1 ⟨rfl,hb⟩;have k0:=HK.out.1.below hb HK.out.1.lt;have k1:=HK.out.2.1.below hb HK.out.2.1.lt;have k2:=HK.out.2.2.below hb HK.out.2.2.lt;have HK1:=Hj (And.intro k0 (And.intro k1 k2));have HR1:=Hj (HR.out.below hb HR.out.lt);have HF1:=Hj (aZ HF.out hb);have d0:w1.cell? ⟨w.heap.size,0,none⟩=some (.pointer (some ⟨R,0,none⟩)):=k0.cell 0;clear k0 k1 k2 hb HK HR HF c0
 by_cases c1:s.hd.tx=o
 ·rw[cS c1]
  by_cases c2:d=24
  ·subst c2
   have E:Hid (Z=.no 111 s.hd.ps):=by show Z=_;rw[←HZ.out];unfold fB;rw[if_pos c1,if_pos rfl]
   clear c1;go_wp2_with fail;refine(mB R s _ w1 HR1.out).mono ?_;rintro e w2 ⟨rfl,hb⟩;have HF2:=Hj (aZ HF1.out hb);clear hb;go_wp2_with fail;refine⟨rfl,?_⟩;rw[E.out];exact⟨rfl,HF2.out.mono (aD _) (fun k _ (x:k=R)=>by rw[x];exact HXX.out.1)⟩
  ·have E:Hid ((p s.tk).bind (fun a s'=>(cF c s').bind fun _ s''=>.ok a s'')=Z):=by show _=Z;rw[←HZ.out];unfold fB;rw[if_pos c1,if_neg c2]
   have hk:s.hd.kd≠0:=HR1.out.good.kd (by rw[←PS.hd,c1];exact ho);have hd:d<24:=by have:=HD.out;omega
   have DP:=Hj (nC R d 126 #[.pointer (some ⟨w.heap.size,0,none⟩),.pointer (some ⟨w.heap.size+2,0,none⟩),.pointer (some ⟨w.heap.size+1,0,none⟩)] X s ((p s.tk).bind (fun a s'=>(cF c s').bind fun _ s''=>.ok a s'')) G aCU HXX.out.1 HXX.out.2.2 w1 HR1.out hd
    (fun w2 h2 f2=>by
     have hl:=HLT.out;have q0:=f2.blk HK1.out.1 HK1.out.1.lt (aO hl);have q1:=f2.blk HK1.out.2.1 HK1.out.2.1.lt (aO (by omega));have q2:=f2.blk HK1.out.2.2 HK1.out.2.2.lt (aO (by omega))
     exact aDa R (d+1) n _ _ _ w.heap.size c hc caps X s (p s.tk) G HN.out HXX.out.1 HXX.out.2.1 HXX.out.2.2 w2 h2 hk q0 q1 q2 (aD _) (Nat.le_add_right _ _) (Nat.le_add_right _ _)
      (fun w3 h3 f3=>HH.out hd w3 h3 (aJ HF1.out (aJ f2 f3)))))
   rw[E.out]at DP;clear c1 c2 hk hd HH HK1 E HZ;go_wp2_with fail;refine DP.out.mono ?_;intro e w2 hpo;clear DP
   cases Z with
   | no c' q=>
    obtain⟨rfl,f2⟩:=hpo;have HF2:=Hj (aJ (HF1.out.mono (aD _) (fun k _ (x:k=R)=>by rw[x];exact HXX.out.1)) f2);clear f2;go_wp2_with fail;exact⟨rfl,rfl,HF2.out⟩
   | ok a s2=>
    obtain⟨rfl,g,h2,f2⟩:=hpo;have HF2:=Hj (aJ (HF1.out.mono (aD _) (fun k _ (x:k=R)=>by rw[x];exact HXX.out.1)) f2);have HG2:=Hj g;have HR2:=Hj h2;clear f2 g h2;go_wp2_with fail;exact bodyPost_end (results_none rfl _ _ _) rfl ⟨rfl,HG2.out,HR2.out,HF2.out⟩
 ·rw[cU c1]
  have E:Hid (Z=.no 110 s.hd.ps):=by show Z=_;rw[←HZ.out];unfold fB;rw[if_neg c1];rfl
  clear c1;go_wp2_with fail;refine(fG R d s w1 HR1.out).mono ?_;rintro e w2 ⟨rfl,hb⟩;have HF2:=Hj (aZ HF1.out hb);clear hb;go_wp2_with fail;refine⟨rfl,?_⟩;rw[E.out];exact⟨rfl,HF2.out.mono (aD _) (fun k _ (x:k=R)=>by rw[x];exact HXX.out.1)⟩
def GB {α:Type}(be:Nat)(f:α→Ex)(a:α)(w:World):Prop:=∃e':Ex,Blk w be 42 e'.h.va∧XO (fun k=>be<k) e' w∧e'.eqv (f a)
def Two (R be:Nat):Nat→Prop:=fun k=>k=R∨k=be
theorem aKX {α:Type}{R be:Nat}{f:α→Ex}(hR:R<be)(a:α)(w1 w2:World)(h:GB be f a w1)(hf:Fx (On R) w1.heap.size w1 w2):GB be f a w2:=by
 obtain⟨e',h1,h2,h3⟩:=h;exact⟨e',hf.blk h1 h1.lt (aO hR),h2.fx hf (aQ (fun x:be<R=>by omega)),h3⟩
theorem gN {R be B : Nat} {w w' : World} (h : Fx (Two R be) w.heap.size w w') (hB : B ≤ w.heap.size) (hb : B ≤ be) : Fx (On R) B w w' :=
  h.mono hB fun k hk (x : k = R ∨ k = be) => by rcases x with x | x
                                                · exact x
                                                · omega
theorem aGJ:jH 282:=dJ (by rfl) (by kernel_rfl) rfl
theorem aHh (R d b0 be:Nat)(P:PS→Rs Ex)(hP:dP R d 151 P)(s:PS)(w:World)(h:Rdr R d s w)(h0:Blk w b0 108 #[.pointer (some ⟨R,0,none⟩)])(old:Array Value)(he:Blk w be 42 old)(ho:old.size=7)(hb:R<be) :
  Calls Tryz.prog 282 #[.pointer (some ⟨b0,0,none⟩),.pointer (some ⟨be,0,none⟩)] w (PC R d (Two R be) w (P s) (GB be id)):=by
 have c0:w.cell? ⟨b0,0,none⟩=some (.pointer (some ⟨R,0,none⟩)):=h0.cell 0;have HE:=Hj he;have HR:=Hj h;have HB:=Hj hb;have HO:=Hj ho;clear h0 he h hb ho;go_enter Tryz.func282,Tryz.ntmps282;go_wp2_with fail;refine(hP s w HR.out).mono ?_;intro r w1 hpo
 cases hres:P s with
 | no c q=>
  rw[hres]at hpo;obtain⟨rfl,f1⟩:=hpo;have HF1:=Hj f1;clear f1 hres;go_wp2_with fail;refine⟨rfl,?_⟩;exact⟨rfl,HF1.out.mono (aD _) (fun k _ x=>.inl x)⟩
 | ok e s1=>
  rw[hres]at hpo;obtain⟨v,rfl,⟨b,rfl,xb,eb⟩,h1,f1⟩:=hpo;have E:=Hj hres;have HE1:=Hj (f1.blk HE.out HE.out.lt (aO HB.out));have HX1:=Hj (xb.imp (D':=fun k=>be<k) (fun k _ (x:w.heap.size≤k)=>aE HE.out.lt x));have HR1:=Hj h1;have HF1:=Hj (f1.mono (Y:=Two R be) (aD _) (fun k _ x=>.inl x));have EB:=Hj eb;clear f1 hres xb h1 eb HE HR
  go_wp2_with (refine eL b.h be _ HE1.out HO.out rfl _ _ rfl rfl rfl ?_)
  refine bodyPost_end (results_none rfl _ _ _) rfl ?_;rw[E.out];exact⟨rfl,⟨b,HE1.out.rowS _,HX1.out.row (Nat.lt_irrefl _) _,EB.out⟩,HR1.out.row HB.out _,bI HF1.out (.inl (.inr rfl)) _⟩
theorem wC (R d:Nat)(P:PS→Rs Ex)(hP:d<24→dP R (d+1) 151 P):dP R d 276 (fB d [40] [41] P):=by
 intro s w h;have hmf:∀(fn:Fn) (first cap:Array Value) (w:World),(Instr.makeFunc fn first cap).run Tryz.prog w=.ok (.func fn first cap) w:=fun _ _ _ _=>rfl;have BL:Below w.heap.size w (((w.alloc (oR R)).alloc zX).alloc zX):=aI (aI (aY w _) _) _;have k0:Blk (((w.alloc (oR R)).alloc zX).alloc zX) w.heap.size 108 #[.pointer (some ⟨R,0,none⟩)]:=((Blk.new w _ _).alloc zX).alloc zX
 have k1:Blk (((w.alloc (oR R)).alloc zX).alloc zX) (w.heap.size+1) 42 aP.va:=by
  have:=(Blk.new (w.alloc (oR R)) 42 aP.va).alloc zX;rw[World.size_alloc]at this;exact this
 have k2:Blk (((w.alloc (oR R)).alloc zX).alloc zX) (w.heap.size+2) 42 aP.va:=by
  have:=Blk.new ((w.alloc (oR R)).alloc zX) 42 aP.va;rw[World.size_alloc,World.size_alloc]at this;exact this
 have hl:=h.lt;have HK:=Hj (And.intro k0 (And.intro k1 k2));have c0:(((w.alloc (oR R)).alloc zX).alloc zX).cell? ⟨w.heap.size,0,none⟩=some (.pointer (some ⟨R,0,none⟩)):=k0.cell 0
 have C:=Hj (fR R d 282 [40] [41] (by decide) (by decide) #[.pointer (some ⟨w.heap.size,0,none⟩),.pointer (some ⟨w.heap.size+2,0,none⟩)] (Two R (w.heap.size+2)) s P (GB (w.heap.size+2) id) aGJ (.inl rfl) (fun a w1 w2=>aKX (by omega) a w1 w2) _ (h.below BL h.lt)
  (fun k (x:k=R∨k=w.heap.size+2)=>by have:=k2.lt;omega)
  (fun hd w1 h1 f1=>aHh R (d+1) _ _ P (hP hd) s.tk w1 h1 (f1.blk k0 k0.lt (aO hl)) _ (f1.blk k2 k2.lt (aO (by omega))) rfl (by omega)))
 have HF:Hid (Fx (On R) w.heap.size w (((w.alloc (oR R)).alloc zX).alloc zX)):=Fx.of BL;have HLT:=Hj hl;clear BL k0 k1 k2 h hP hl;generalize fB d [40] [41] P s=Z at *;go_enter Tryz.func276,Tryz.ntmps276;go_upto_region 2 with fail;change (Code.region 2 _ _).wp _ _ _ (((w.alloc (oR R)).alloc zX).alloc zX);generalize ((w.alloc (oR R)).alloc zX).alloc zX=wx at *;go_wp2_with fail;refine C.out.mono ?_;intro r w1 hpo;clear C
 cases Z with
 | no c q=>
  obtain⟨rfl,f1⟩:=hpo;have HF1:=Hj (HF.out.trans (gN f1 HF.out.size (Nat.le_add_right _ _)));clear f1;go_wp2_with fail;exact⟨rfl,rfl,HF1.out⟩
 | ok e s1=>
  obtain⟨rfl,⟨b,hb,xb,eb⟩,h1,f1⟩:=hpo;have HF1:=Hj (HF.out.trans (gN f1 HF.out.size (Nat.le_add_right _ _)));have HB1:=Hj hb;have hl:=HLT.out;have NB1:=Hj (f1.blk HK.out.2.1 HK.out.2.1.lt (fun x=>by rcases x with x|x<;>omega));have HX1:=Hj xb;have HR1:=Hj h1;have EB:=Hj eb;clear f1 xb h1 eb HF hb HK hl c0
  go_wp2_with (first
   | refine jV b.h (w.heap.size+2) HB1.out rfl _ rfl rfl ?_
   | refine eL b.h (w.heap.size+1) _ NB1.out rfl rfl _ _ rfl rfl rfl ?_)
  exact bodyPost_ret (fQ rfl _ _ (w.heap.size+1) b.h rfl (NB1.out.rowS _)) rfl ⟨_,rfl,⟨b,rfl,(HX1.out.row (fun(x:w.heap.size+2<w.heap.size+1)=>by omega) _).imp (fun k _ (x:w.heap.size+2<k)=>(by show w.heap.size≤k;omega)),EB.out⟩,HR1.out.row (Nat.lt_succ_of_lt HLT.out) _,bI HF1.out (.inr (Nat.le_succ _)) _⟩
theorem XO.set {D:Nat→Prop}{e:Ex}{w:World}(h:XO D e w){p:Addr}(hp:¬D p.block)(v:Value):XO D e (w.setCell p v):=h.fx (X:=On p.block) (bJ (X:=On p.block) (Fx.refl _ _ _) (.inl rfl) v) (aQ hp)
def XL (D:Nat→Prop)(S:Sl)(K:Nat→Ex)(w:World):Prop:=gE w.heap.size (up D w) S K
theorem XL.fx {X D:Nat→Prop}{S:Sl}{K:Nat→Ex}{w w':World}(h:XL D S K w)(hf:Fx X w.heap.size w w')(hX:∀k,X k→¬D k):XL D S K w':=gE.stay h (jD hf hX) hf.size
theorem XL.imp {D D':Nat→Prop}{S:Sl}{K:Nat→Ex}{w:World}(h:XL D S K w)(hD:∀k,k<w.heap.size→D k→D' k):XL D' S K w:=gE.stay h (gP hD w) (aD _)
def Leq (S:Sl)(K:Nat→Ex)(l:List Ex):Prop:=S.n=l.length∧∀i,i<S.n→(K i).eqv (l.getD i .no)
def VL (D:Nat→Prop)(l:List Ex)(v:Value)(w:World):Prop:=∃S K,v=Sl.val S∧XL D S K w∧Leq S K l
def GL (bl:Nat)(l:List Ex)(w:World):Prop:=∃S K,Blk w bl 40 #[Sl.val S]∧XL (fun k=>bl<k) S K w∧Leq S K l
theorem aNd {R bl:Nat}(hR:R<bl)(a:List Ex)(w1 w2:World)(h:GL bl a w1)(hf:Fx (On R) w1.heap.size w1 w2):GL bl a w2:=by
 obtain⟨S,K,h1,h2,h3⟩:=h;exact⟨S,K,hf.blk h1 h1.lt (aO hR),h2.fx hf (aQ (fun x:bl<R=>by omega)),h3⟩
theorem aJG {D:Nat→Prop}{w:World}{e:Ex}(h1:XO D e w)(hL:D w.heap.size){w':World}{t:TypeId}(hw:w'=w.alloc (.cells e.h.vs.toArray t)):XL D ⟨some ⟨w.heap.size,0,none⟩,1,1⟩ (fun _=>e) w':=by
 have:=aDg (op:=0) (ps:=0) (nm:=[]) h1 hL (by decide) (by decide) (by decide) (by decide) (Nat.zero_le _) hw;exact Ex.In.xs this
theorem aGE:jH 181:=dJ (by rfl) (by kernel_rfl) rfl
def aAp (P:PS→Rs Ex)(s:PS):Rs (List Ex):=(P s).bind fun e s'=>.ok [e] s'
theorem aHc (R d b0 bl:Nat)(P:PS→Rs Ex)(hP:dP R d 151 P)(s:PS)(w:World)(h:Rdr R d s w)(h0:Blk w b0 108 #[.pointer (some ⟨R,0,none⟩)])(old:Value)(he:Blk w bl 40 #[old])(hb:R<bl) :
  Calls Tryz.prog 181 #[.pointer (some ⟨b0,0,none⟩),.pointer (some ⟨bl,0,none⟩)] w (PC R d (Two R bl) w (aAp P s) (GL bl)):=by
 have c0:w.cell? ⟨b0,0,none⟩=some (.pointer (some ⟨R,0,none⟩)):=h0.cell 0;have HE:=Hj he;have HR:=Hj h;have HB:=Hj hb;generalize hZ:aAp P s=Z;have HZ:=Hj hZ;clear h0 he h hb hZ;go_enter Tryz.func181,Tryz.ntmps181;go_wp2_with fail;refine(hP s w HR.out).mono ?_;intro r w1 hpo
 cases hres:P s with
 | no c q=>
  rw[hres]at hpo;obtain⟨rfl,f1⟩:=hpo;have HF1:=Hj f1;have E:Hid (Z=.no c q):=by show Z=_;rw[←HZ.out];unfold aAp;rw[hres];rfl
  clear f1 hres;go_wp2_with fail;refine⟨rfl,?_⟩;rw[E.out];exact⟨rfl,HF1.out.mono (aD _) (fun k _ x=>.inl x)⟩
 | ok e s1=>
  rw[hres]at hpo;obtain⟨v,rfl,⟨b,rfl,xb,eb⟩,h1,f1⟩:=hpo;have E:Hid (Z=.ok [e] s1):=by show Z=_;rw[←HZ.out];unfold aAp;rw[hres];rfl
  have e1:=f1.blk HE.out HE.out.lt (aO HB.out);have x1:=xb.imp (D':=fun k=>bl<k) (fun k _ (x:w.heap.size≤k)=>aE HE.out.lt x);have hsz:(w1.setCell ⟨bl,0,none⟩ (.slice (some ⟨w1.heap.size,0,none⟩) 1 1)).heap.size=w1.heap.size:=World.size_setCell ..;have x2:=x1.set (p:=⟨bl,0,none⟩) (Nat.lt_irrefl _) (.slice (some ⟨w1.heap.size,0,none⟩) 1 1);have e2:=e1.set_ 0 (.slice (some ⟨w1.heap.size,0,none⟩) 1 1);have BLb:=aY (w1.setCell ⟨bl,0,none⟩ (.slice (some ⟨w1.heap.size,0,none⟩) 1 1)) (.cells b.h.vs.toArray 42);have HL2:=Hj (aJG x2 (by rw[hsz];exact e1.lt) (t:=42) rfl);rw[hsz]at HL2;have HE2:=Hj (e2.below BLb e2.lt);have hr:=h1.set (p:=⟨bl,0,none⟩) HB.out (.slice (some ⟨w1.heap.size,0,none⟩) 1 1);have HR2:=Hj (hr.below BLb hr.lt);have HF2:=Hj (aZ (bJ (f1.mono (Y:=Two R bl) (aD _) (fun k _ x=>.inl x)) (p:=⟨bl,0,none⟩) (.inl (.inr rfl)) (.slice (some ⟨w1.heap.size,0,none⟩) 1 1)) BLb);have m2:w1.cell? ⟨bl,0,none⟩=some old:=e1.cell 0;have z2:w1.frozen? ⟨bl,0,none⟩=false:=e1.frozen 0;have lb:=e1.lt;have EB:=Hj eb;clear f1 hres xb h1 eb HE HR e1 x1 BLb hsz x2 e2 hr;unfold EH.v;go_wp2_with fail;refine bodyPost_end (results_none rfl _ _ _) rfl ?_;rw[E.out]
  refine⟨rfl,⟨⟨some ⟨w1.heap.size,0,none⟩,1,1⟩,fun _=>b,HE2.out,HL2.out,rfl,fun i hi=>?_⟩,HR2.out,HF2.out⟩;have hi:i<1:=hi;obtain rfl:i=0:=by omega
  exact EB.out
def idx (d:Nat)(P:PS→Rs Ex)(s:PS):Rs (List Ex):=if s.hd.tx=[91]then fB d [91] [93] (aAp P) s else .ok [] s
def zL:Obj:=.cells #[.slice none 0 0] 40
theorem pE (R d:Nat)(P:PS→Rs Ex)(hP:d<24→dP R (d+1) 151 P)(s:PS)(w:World)(h:Rdr R d s w):Calls Tryz.prog 154 #[.pointer (some ⟨R,0,none⟩)] w (PO R d w (idx d P s) (VL (Fro w.heap.size))):=by
 have hmf:∀(fn:Fn) (first cap:Array Value) (w:World),(Instr.makeFunc fn first cap).run Tryz.prog w=.ok (.func fn first cap) w:=fun _ _ _ _=>rfl;have BL:Below w.heap.size w ((w.alloc (oR R)).alloc zL):=aI (aY w _) _;have k0:Blk ((w.alloc (oR R)).alloc zL) w.heap.size 108 #[.pointer (some ⟨R,0,none⟩)]:=(Blk.new w _ _).alloc zL
 have k1:Blk ((w.alloc (oR R)).alloc zL) (w.heap.size+1) 40 #[.slice none 0 0]:=by
  have:=Blk.new (w.alloc (oR R)) 40 #[.slice none 0 0];rw[World.size_alloc]at this;exact this
 have hl:=h.lt;have HK:=Hj (And.intro k0 k1);have c0:((w.alloc (oR R)).alloc zL).cell? ⟨w.heap.size,0,none⟩=some (.pointer (some ⟨R,0,none⟩)):=k0.cell 0
 have C:=Hj fun(w0:World) (hr:Rdr R d s w0) (k0:Blk w0 w.heap.size 108 #[.pointer (some ⟨R,0,none⟩)]) (k1:Blk w0 (w.heap.size+1) 40 #[.slice none 0 0])=>
  (fR R d 181 [91] [93] (by decide) (by decide) #[.pointer (some ⟨w.heap.size,0,none⟩),.pointer (some ⟨w.heap.size+1,0,none⟩)] (Two R (w.heap.size+1)) s (aAp P) (GL (w.heap.size+1)) aGE (.inl rfl) (fun a w1 w2=>aNd (by omega) a w1 w2) w0 hr
  (fun k (x:k=R∨k=w.heap.size+1)=>by have:=k1.lt;omega)
  (fun hd w1 h1 f1=>aHc R (d+1) _ _ P (hP hd) s.tk w1 h1 (f1.blk k0 k0.lt (aO hl)) _ (f1.blk k1 k1.lt (aO (by omega))) (by omega)))
 have HR:=Hj (h.below BL h.lt);have HF:Hid (Fx (On R) w.heap.size w ((w.alloc (oR R)).alloc zL)):=Fx.of BL;have HLT:=Hj hl;clear BL k0 k1 h hP hl;generalize hZ:idx d P s=Z;have HZ:=Hj hZ;clear hZ;go_enter Tryz.func154,Tryz.ntmps154;go_upto_region 2 with fail;change (Code.region 2 _ _).wp _ _ _ ((w.alloc (oR R)).alloc zL);generalize (w.alloc (oR R)).alloc zL=wx at *;go_wp2_with fail;refine(dZ R d s [91] wx HR.out).mono ?_;rintro e w1 ⟨rfl,hb⟩;have k0:=HK.out.1.below hb HK.out.1.lt;have k1:=HK.out.2.below hb HK.out.2.lt;have HR1:=Hj (HR.out.below hb HR.out.lt);have HF1:=Hj (aZ HF.out hb);have d0:w1.cell? ⟨w.heap.size,0,none⟩=some (.pointer (some ⟨R,0,none⟩)):=k0.cell 0;have d1:w1.cell? ⟨w.heap.size+1,0,none⟩=some (.slice none 0 0):=k1.cell 0;have D:=Hj (C.out w1 HR1.out k0 k1);have HK1:=Hj k1;clear k0 k1 hb HK HR HF c0 C
 by_cases c1:s.hd.tx=[91]
 ·rw[cS c1]
  have E:Hid (fB d [91] [93] (aAp P) s=Z):=by show _=Z;rw[←HZ.out];unfold idx;rw[if_pos c1]
  rw[E.out]at D;clear c1 HZ E d1;go_wp2_with fail;refine D.out.mono ?_;intro r w2 hpo;clear D
  cases Z with
  | no c q=>
   obtain⟨rfl,f1⟩:=hpo;have HF2:=Hj (HF1.out.trans (gN f1 HF1.out.size (Nat.le_succ _)));clear f1;go_wp2_with fail;exact⟨rfl,rfl,HF2.out⟩
  | ok l s1=>
   obtain⟨rfl,⟨S,K,hb,xb,eb⟩,h1,f1⟩:=hpo;have HF2:=Hj (HF1.out.trans (gN f1 HF1.out.size (Nat.le_succ _)));have e1:w2.cell? ⟨w.heap.size+1,0,none⟩=some (.slice S.ao S.n S.c):=hb.cell 0;have HX:=Hj xb;have HR2:=Hj h1;have EB:=Hj eb;clear f1 xb h1 eb hb HF1;go_wp2_with fail;go_ret;exact⟨_,rfl,⟨S,K,rfl,HX.out.imp (fun k _ (x:w.heap.size+1<k)=>(by show w.heap.size≤k;omega)),EB.out⟩,HR2.out,HF2.out⟩
 ·rw[cU c1]
  have E:Hid (Z=.ok [] s):=by show Z=_;rw[←HZ.out];unfold idx;rw[if_neg c1]
  clear c1 HZ D;go_wp2_with fail;refine bodyPost_ret (results_tmp rfl _ _ _) rfl ?_;rw[E.out];exact⟨_,rfl,⟨⟨none,0,0⟩,fun _=>.no,rfl,⟨iQ,fun a ha=>(by cases ha),fun i hi=>absurd hi (Nat.not_lt_zero i)⟩,rfl,fun i hi=>absurd hi (Nat.not_lt_zero i)⟩,HR1.out,HF1.out⟩
theorem aGC:jH 269:=dJ (by rfl) (by kernel_rfl) rfl
theorem aHa (R d b0 be:Nat)(u:PS→Rs Ex)(hu:dP R d 256 u)(op ps:Int)(ho0:0≤op)(ho1:op≤255)(hp0:0≤ps)(hp1:ps≤16384)(s:PS)(w:World)(h:Rdr R d s w)(hk:s.hd.kd≠0)(h0:Blk w b0 108 #[.pointer (some ⟨R,0,none⟩)])
  (he:Blk w be 42 (EH.va ⟨op,ps,false,0,0,[],⟨none,0,0⟩⟩)) (hb:R<be) (hb0:R<b0) :
  Calls Tryz.prog 269 #[.pointer (some ⟨b0,0,none⟩),.pointer (some ⟨be,0,none⟩)] w (PC R d (Two R be) w (u s.tk) (GB be (fun e=>opX op ps [e]))):=by
 have c0:w.cell? ⟨b0,0,none⟩=some (.pointer (some ⟨R,0,none⟩)):=h0.cell 0;have HE:=Hj (And.intro h0 he);have HR:=Hj h;have HB:=Hj (And.intro hb hb0);have HK:=Hj hk;have HO:=Hj (And.intro (And.intro ho0 ho1) (And.intro hp0 hp1));clear h0 he h hb hb0 hk ho0 ho1 hp0 hp1;generalize hZ:u s.tk=Z;have HZ:=Hj hZ;clear hZ;go_enter Tryz.func269,Tryz.ntmps269;go_wp2_with fail;refine(dG R d s w HR.out HK.out).mono ?_;rintro r w1 ⟨rfl,h1,f1⟩;have k0:=f1.blk HE.out.1 HE.out.1.lt (aO HB.out.2);have k1:=f1.blk HE.out.2 HE.out.2.lt (aO HB.out.1);have d0:w1.cell? ⟨b0,0,none⟩=some (.pointer (some ⟨R,0,none⟩)):=k0.cell 0;have HE1:=Hj k1;have HR1:=Hj h1;have HF1:=Hj f1;clear k0 k1 h1 f1 HE HR c0;go_wp2_with fail;refine(hu s.tk w1 HR1.out).mono ?_;intro r w2 hpo;rw[HZ.out]at hpo
 cases Z with
 | no c q=>
  obtain⟨rfl,f2⟩:=hpo;have HF2:=Hj (aJ HF1.out f2);clear f2;go_wp2_with fail;exact⟨rfl,rfl,HF2.out.mono (aD _) (fun k _ x=>.inl x)⟩
 | ok e s2=>
  obtain⟨v,rfl,⟨b,rfl,xb,eb⟩,h2,f2⟩:=hpo;have e1:=f2.blk HE1.out HE1.out.lt (aO HB.out.1);have x1:=xb.imp (D':=fun k=>be<k) (fun k _ (x:w1.heap.size≤k)=>aE HE1.out.lt x);have f3:=aJ HF1.out f2;have hsz:(w2.setCell ⟨be,6,none⟩ (.slice (some ⟨w2.heap.size,0,none⟩) 1 1)).heap.size=w2.heap.size:=World.size_setCell ..;have x2:=x1.set (p:=⟨be,6,none⟩) (Nat.lt_irrefl _) (.slice (some ⟨w2.heap.size,0,none⟩) 1 1);have e2:=e1.set_ 6 (.slice (some ⟨w2.heap.size,0,none⟩) 1 1);have BLb:=aY (w2.setCell ⟨be,6,none⟩ (.slice (some ⟨w2.heap.size,0,none⟩) 1 1)) (.cells b.h.vs.toArray 42);have HX2:=Hj (aDg (op:=op) (ps:=ps) (nm:=[]) x2 (by rw[hsz];exact e1.lt) HO.out.1.1 HO.out.1.2 HO.out.2.1 HO.out.2.2 (Nat.zero_le _) (t:=42) rfl);rw[hsz]at HX2;have HE2:=Hj (e2.below BLb e2.lt);have hr:=h2.set (p:=⟨be,6,none⟩) HB.out.1 (.slice (some ⟨w2.heap.size,0,none⟩) 1 1);have HR2:=Hj (hr.below BLb hr.lt);have HF2:=Hj (aZ (bJ (f3.mono (Y:=Two R be) (aD _) (fun k _ x=>.inl x)) (p:=⟨be,6,none⟩) (.inl (.inr rfl)) (.slice (some ⟨w2.heap.size,0,none⟩) 1 1)) BLb);have m2:w2.cell? ⟨be,6,none⟩=some (.slice none 0 0):=e1.cell 6;have z2:w2.frozen? ⟨be,6,none⟩=false:=e1.frozen 6
  have lb:=e1.lt;have EB:=Hj eb;clear f2 f3 xb h2 eb HE1 HR1 e1 x1 BLb hsz x2 e2 hr HF1 HZ;unfold EH.v;go_wp2_with fail;exact bodyPost_end (results_none rfl _ _ _) rfl ⟨rfl,⟨.mk ⟨op,ps,false,0,0,[],⟨some ⟨w2.heap.size,0,none⟩,1,1⟩⟩ (fun _=>b),HE2.out,HX2.out,aEg EB.out⟩,HR2.out,HF2.out⟩
theorem qO {D:Nat→Prop}{w:World}{h:EH}{k:Nat→Ex}(ho:h.ok)(hs:h.s=⟨none,0,0⟩):XO D (.mk h k) w:=
 ⟨ho,(fun a ha=>(by rw[hs]at ha;cases ha)),(fun i hi=>(by rw[hs]at hi;exact absurd hi (Nat.not_lt_zero i)))⟩
theorem aLx {D:Nat→Prop}{w:World}{h:EH}{k:Nat→Ex}(ho:h.ok)(hx:XL D h.s k w):XO D (.mk h k) w:=⟨ho,hx.2.1,hx.2.2⟩
theorem aLS {ps:Int}{nm:List UInt8}{S:Sl}{K:Nat→Ex}{l:List Ex}(h:Leq S K l):(Ex.mk ⟨4,ps,false,0,0,nm,S⟩ K).eqv (nmX ps nm l):=by
 refine⟨?_,rfl,h.2⟩
 simp[hdS,nmX,Ex.h,h.1]
theorem aIu (d:Nat)(o c:List UInt8)(P:PS→Rs Ex)(s:PS):fB d o c (aAp P) s=(fB d o c P s).bind fun e s'=>.ok [e] s':=by
 unfold fB aAp;split
 ·split
  ·rfl
  ·cases P s.tk with
   | no e q=>rfl
   | ok e s'=>
    simp only[bG]
    cases cF c s'<;>rfl
 ·rfl
theorem aDt {D:Option (PS→Rs Ex)}{d:Nat}{P:PS→Rs Ex}(he:∀o c s,jN D o c s=fB d o c P s)(s:PS):index D s=idx d P s:=by
 unfold index idx;rw[he,aIu]
theorem XL.row {D:Nat→Prop}{S:Sl}{K:Nat→Ex}{w:World}(h:XL D S K w){p:Addr}(hp:¬D p.block)(v:Value):XL D S K (w.setCell p v):=h.fx (X:=On p.block) (bJ (X:=On p.block) (Fx.refl _ _ _) (.inl rfl) v) (aQ hp)
theorem vX (R d k:Nat)(hdk:d+k=24)(ha:dP R d 268 (rC (dK k)))(hu:∀k',k=k'+1→dP R (d+1) 256 (unK k')):dP R d 256 (unK k):=by
 intro s w h;have hmf:∀(fn:Fn) (first cap:Array Value) (w:World),(Instr.makeFunc fn first cap).run Tryz.prog w=.ok (.func fn first cap) w:=fun _ _ _ _=>rfl;have ft:=fun w=>mT s.hd w;have fp:=fun w=>oX s.hd w;have BL:Below w.heap.size w ((w.alloc (oR R)).alloc zX):=aI (aY w _) _;have k0:Blk ((w.alloc (oR R)).alloc zX) w.heap.size 108 #[.pointer (some ⟨R,0,none⟩)]:=(Blk.new w _ _).alloc zX
 have k1:Blk ((w.alloc (oR R)).alloc zX) (w.heap.size+1) 42 aP.va:=by
  have:=Blk.new (w.alloc (oR R)) 42 aP.va;rw[World.size_alloc]at this;exact this
 have hl:=h.lt;have HK:=Hj (And.intro k0 k1);have c0:((w.alloc (oR R)).alloc zX).cell? ⟨w.heap.size,0,none⟩=some (.pointer (some ⟨R,0,none⟩)):=k0.cell 0;have HR:=Hj (h.below BL h.lt);have HF:Hid (Fx (On R) w.heap.size w ((w.alloc (oR R)).alloc zX)):=Fx.of BL;have HSZ:Hid (w.heap.size+2≤((w.alloc (oR R)).alloc zX).heap.size):=by show w.heap.size+2≤_;rw[World.size_alloc,World.size_alloc];exact aD _
 have HLT:=Hj hl;have HDK:=Hj hdk;have HU:=Hj hu;have HGD:=Hj h.good;clear BL k0 k1 h hl hdk hu;rw[aLg];generalize hZ:un (dK k) s=Z;have HZ:=Hj hZ;clear hZ;go_enter Tryz.func256,Tryz.ntmps256;go_upto_region 1 with fail;change (Code.region 1 _ _).wp _ _ _ ((w.alloc (oR R)).alloc zX);generalize (w.alloc (oR R)).alloc zX=wx at *;go_wp2_with fail;refine(cI R d s wx HR.out).mono ?_;rintro e w1 ⟨rfl,hb⟩;have k0:=HK.out.1.below hb HK.out.1.lt;have k1:=HK.out.2.below hb HK.out.2.lt;have HR1:=Hj (HR.out.below hb HR.out.lt);have HF1:=Hj (aZ HF.out hb);have HS1:=Hj (aF HSZ.out hb.size);have d0:w1.cell? ⟨w.heap.size,0,none⟩=some (.pointer (some ⟨R,0,none⟩)):=k0.cell 0;have HK1:=Hj (And.intro k0 k1);clear k0 k1 hb HK HR HF c0 HSZ;go_wp2_with fail;refine(uA s.hd.tx w1).mono ?_;rintro r w2 ⟨rfl,rfl⟩
 by_cases c:unT s.hd.tx=0
 ·have E:Hid (rC (dK k) s=Z):=by show _=Z;rw[←HZ.out];unfold un;rw[if_pos c]
  have A:=Hj (ha s w2 HR1.out);rw[E.out]at A;rw[c];clear c HZ E;go_wp2_with fail;refine A.out.mono ?_;intro r w3 hpo;clear A
  cases Z with
  | no c q=>
   obtain⟨rfl,f3⟩:=hpo;have HF3:=Hj (aJ HF1.out f3);clear f3;go_wp2_with fail;exact⟨rfl,rfl,HF3.out⟩
  | ok e s3=>
   obtain⟨v,rfl,⟨b,rfl,xb,eb⟩,h3,f3⟩:=hpo;have HF3:=Hj (aJ HF1.out f3);have NB3:=Hj (f3.blk HK1.out.2 HK1.out.2.lt (aO (Nat.lt_succ_of_lt HLT.out)));have HX3:=Hj (xb.imp (D':=fun k=>w.heap.size+2≤k) (fun k _ (x:w2.heap.size≤k)=>aF HS1.out x));have HR3:=Hj h3;have EB:=Hj eb;clear f3 xb h3 eb HK1 HF1
   go_wp2_with (refine eL b.h (w.heap.size+1) _ NB3.out rfl rfl _ _ rfl rfl rfl ?_)
   exact bodyPost_ret (fQ rfl _ _ (w.heap.size+1) b.h rfl (NB3.out.rowS _)) rfl ⟨_,rfl,⟨b,rfl,(HX3.out.row (fun(x:w.heap.size+2≤w.heap.size+1)=>by omega) _).imp (fun k _ (x:w.heap.size+2≤k)=>(by show w.heap.size≤k;omega)),EB.out⟩,HR3.out.row (Nat.lt_succ_of_lt HLT.out) _,bI HF3.out (.inr (Nat.le_succ _)) _⟩
 ·have hk:s.hd.kd≠0:=HGD.out.kd (aGi c)
  have HKD:=Hj hk;have E:Hid ((match dK k with|none=>.no 111 s.hd.ps|some u=>(u s.tk).bind fun e s'=>dU (opX (unT s.hd.tx) s.hd.ps [e]) s')=Z):=by show _=Z;rw[←HZ.out];unfold un;rw[if_neg c];cases dK k<;>rfl
  have c2:(unT s.hd.tx == 0)=false:=by simp[c]
  have hop:0≤unT s.hd.tx∧unT s.hd.tx≤255:=by unfold unT;(repeat' split)<;>decide
  have hd:=HGD.out.hd;have HO:Hid ((0≤unT s.hd.tx∧unT s.hd.tx≤255)∧0≤s.hd.ps∧s.hd.ps≤16384):=⟨hop,hd.ps0,hd.ps1⟩;clear c hk HZ hop hd ha;generalize unT s.hd.tx=op at *;go_wp2_with fail;refine(cI R d s w2 HR1.out).mono ?_;rintro e w3 ⟨rfl,hb⟩;have BLb:Below w3.heap.size w3 (bx w3 (xO ⟨op,s.hd.ps,false,0,0,[],⟨none,0,0⟩⟩)):=bS (Below.refl _ _) (aD _) _;have BB:=hb.trans (BLb.mono hb.size);have k0:=HK1.out.1.below BB HK1.out.1.lt;have k1:=HK1.out.2.below BB HK1.out.2.lt;have HEB:Hid (Blk (bx w3 (xO ⟨op,s.hd.ps,false,0,0,[],⟨none,0,0⟩⟩)) w3.heap.size 42 (EH.va ⟨op,s.hd.ps,false,0,0,[],⟨none,0,0⟩⟩)):=zQ w3 _;have HR2:=Hj (HR1.out.below BB HR1.out.lt);have HF2:=Hj (aZ HF1.out BB);have HS2:=Hj (aF HS1.out hb.size);have e0:(bx w3 (xO ⟨op,s.hd.ps,false,0,0,[],⟨none,0,0⟩⟩)).cell? ⟨w.heap.size,0,none⟩=some (.pointer (some ⟨R,0,none⟩)):=k0.cell 0;have HK2:=Hj (And.intro k0 k1);clear k0 k1 hb BLb BB HK1 HR1 HF1 HS1 d0;go_upto_region 5 with fail;change (Code.region 5 _ _).wp _ _ _ (bx w3 (xO ⟨op,s.hd.ps,false,0,0,[],⟨none,0,0⟩⟩));generalize bx w3 (xO ⟨op,s.hd.ps,false,0,0,[],⟨none,0,0⟩⟩)=w4 at *;generalize w3.heap.size=g at *
  have HRg:Hid (R<g):=aE (aE HLT.out (Nat.le_add_right _ 2)) HS2.out
  cases k with
  | zero=>
   obtain rfl:d=24:=by have:=HDK.out;omega
   have E2:Hid (Z=.no 111 s.hd.ps):=by show Z=_;rw[←E.out];rfl
   clear E HU;go_wp2_with fail;refine(mB R s _ w4 HR2.out).mono ?_;rintro r w5 ⟨rfl,hb⟩;have HF5:=Hj (aZ HF2.out hb);clear hb;go_wp2_with fail;refine⟨rfl,?_⟩;rw[E2.out];exact⟨rfl,HF5.out⟩
  | succ k'=>
   have E2:Hid ((unK k' s.tk).bind (fun e s'=>dU (opX op s.hd.ps [e]) s')=Z):=by show _=Z;rw[←E.out];rfl
   have hd:d<24:=by have:=HDK.out;omega
   have DP:=Hj (nC R d 269 #[.pointer (some ⟨w.heap.size,0,none⟩),.pointer (some ⟨g,0,none⟩)] (Two R g) s (unK k' s.tk) (GB g (fun e=>opX op s.hd.ps [e])) aGC (.inl rfl) (fun a w1 w2=>aKX HRg.out a w1 w2) w4 HR2.out hd
    (fun w5 h5 f5=>aHa R (d+1) _ g (unK k') (HU.out k' rfl) op s.hd.ps HO.out.1.1 HO.out.1.2 HO.out.2.1 HO.out.2.2 s w5 h5 HKD.out (f5.blk HK2.out.1 HK2.out.1.lt (aO HLT.out)) (f5.blk HEB.out HEB.out.lt (aO HRg.out)) HRg.out HLT.out))
   clear E hd HU HEB;generalize unK k' s.tk=Y at *;go_wp2_with fail;refine DP.out.mono ?_;intro r w5 hpo;clear DP
   cases Y with
   | no c q=>
    obtain⟨rfl,f5⟩:=hpo;have HF5:=Hj (HF2.out.trans (gN f5 HF2.out.size (aF (Nat.le_add_right _ 2) HS2.out)));have E3:Hid (Z=.no c q):=by show Z=_;rw[←E2.out];rfl
    clear f5 E2;go_wp2_with fail;refine⟨rfl,?_⟩;rw[E3.out];exact⟨rfl,HF5.out⟩
   | ok e s5=>
    obtain⟨rfl,⟨b,hb,xb,eb⟩,h5,f5⟩:=hpo;have E3:Hid (dU (opX op s.hd.ps [e]) s5=Z):=by show _=Z;rw[←E2.out];rfl
    have HF5:=Hj (HF2.out.trans (gN f5 HF2.out.size (aF (Nat.le_add_right _ 2) HS2.out)));have hne:∀ {j},R<j→j<g→¬Two R g j:=fun {j} h1 h2 x=>by rcases x with x|x<;>omega
    have hs2:=HS2.out;have k0:=f5.blk HK2.out.1 HK2.out.1.lt (hne HLT.out (by omega));have NB5:=Hj (f5.blk HK2.out.2 HK2.out.2.lt (hne (Nat.lt_succ_of_lt HLT.out) (by omega)));have m0:w5.cell? ⟨w.heap.size,0,none⟩=some (.pointer (some ⟨R,0,none⟩)):=k0.cell 0;have HB5:=Hj hb;have HX5:=Hj xb;have HR5:=Hj h5;have EB:=Hj eb;have hps:(opX op s.hd.ps [e]).h.ps=b.h.ps:=((Ex.eqv_iff _ _).1 eb).2.1;have CM:=Hj (dH R d s5 b.h w5 h5 (opX op s.hd.ps [e]) hps);rw[E3.out]at CM;clear f5 hb xb h5 eb HF2 hne hs2 k0 HK2 HR2 E2 e0 hps
    go_wp2_with (refine jV b.h g HB5.out rfl _ rfl rfl ?_)
    refine CM.out.mono ?_;intro r w6 hpo;clear CM
    cases Z with
    | no c q=>
     obtain⟨rfl,f6⟩:=hpo;have HF6:=Hj (aJ HF5.out f6);clear f6;go_wp2_with fail;exact⟨rfl,rfl,HF6.out⟩
    | ok a s6=>
     obtain⟨v,rfl,rfl,h6,f6⟩:=hpo;obtain rfl:=jO E3.out;have HF6:=Hj (aJ HF5.out f6);have NB6:=Hj (f6.blk NB5.out NB5.out.lt (aO (Nat.lt_succ_of_lt HLT.out)));have HX6:=Hj (HX5.out.fx f6 (aQ (fun x:g<R=>Nat.lt_asymm x HRg.out)));have HR6:=Hj h6;clear f6 h6 NB5 HX5 HR5 HF5
     go_wp2_with (refine eL b.h (w.heap.size+1) _ NB6.out rfl rfl _ _ rfl rfl rfl ?_)
     refine bodyPost_ret (fQ rfl _ _ (w.heap.size+1) b.h rfl (NB6.out.rowS _)) rfl ?_;have hs2:=HS2.out;exact⟨_,rfl,⟨b,rfl,(HX6.out.row (fun(x:g<w.heap.size+1)=>by omega) _).imp (fun k _ (x:g<k)=>(by show w.heap.size≤k;omega)),EB.out⟩,HR6.out.row (Nat.lt_succ_of_lt HLT.out) _,bI HF6.out (.inr (Nat.le_succ _)) _⟩
end Go.Proofs.YtkbicfffokegeaaGreatDoor
