/-
  ParseParses: a source's tree, or what is wrong with it, is the reference's. (part 32 of 38) Conditions: none beside what the card ties.
-/
import Derived.Test.YthmlhkllbichgaaGreatDoorVbe
namespace Go.Proofs.YthmlhkllbichgaaGreatDoor
set_option maxHeartbeats 16000000
open Go.RowKit Go.Maps
set_option maxRecDepth 100000
def zEx:Ex:=.mk zeroH fun _=>.no
theorem zEx_in {D:Nat→Prop}{w:World}:XO D zEx w:=leaf_in (eh_ok (by decide) (by decide) (by decide) (by decide) (by decide) (by decide) (by decide) (by decide) (by decide) sl_no) rfl
theorem px_ret {R:Nat}{w w3:World}{Z:Rs Ex}{e':Ex}(hR:R<w.heap.size)(hx:XO (fun k=>w.heap.size<k) e' w3)(he:∀a s,Z=.ok a s→e'.eqv a)(hu:U R Z w3)(hf:Fx (On R) w.heap.size w w3)(cs:Array Value):PX R w Z (.returned e'.h.v) (w3.setRow w.heap.size cs):=
 ⟨e',rfl,(hx.row (fun x=>Nat.lt_irrefl _ x) _).imp (fun k _ x=>Nat.le_of_lt x),he,hu.fx (wr1_row w3 w.heap.size cs).1 hu.lt (fun k hk (q:k=w.heap.size)=>by omega),fx_row hf (.inr (Nat.le_refl _)) _⟩
def RWn (R k:Nat):Prop:=∀(α:Type) (r:Rs α) (w:World) (d:Int) (o c:List UInt8),o∈resW→c∈resW→d+k=24→U R r w→Calls Tryz.prog 115 #[.pointer (some ⟨R,0,none⟩),.string ⟨o.toArray⟩,.string ⟨c.toArray⟩,.int .i64 d] w (PX R w (r.bind fun _ s=>within (dK k) o c s))
def RA (R k:Nat):Prop:=∀(α:Type) (r:Rs α) (w:World) (d:Int),d+k=24→U R r w→Calls Tryz.prog 120 #[.pointer (some ⟨R,0,none⟩),.int .i64 d] w (PX R w (r.bind fun _ s=>atom (dK k) s))
theorem res_eq {s:PS}{x:List UInt8}{b:Bool}(h:b=(s.hd.tx == x)):(b=true→s.hd.tx=x)∧(b=false→s.hd.tx≠x):=by
 subst h;exact⟨fun e=>by simpa using e,fun e=>by simpa using e⟩
theorem rrwithin_of (R k:Nat)(hk:k≤24)(hl:∀k',k=k'+1→RL R k' 5):RWn R k:=by
 intro α r w d o c ho hc hd h;have BL:=bel_one w zX;have HU:=Hj (h.below BL);have NB:Hid (Blk (w.alloc zX) w.heap.size 41 zeroH.va):=Blk.new _ _ _;have HRL:=Hj h.lt;have HF:Hid (Fx (On R) w.heap.size w (w.alloc zX)):=Fx.of BL;have HSZ:Hid (w.heap.size<(w.alloc zX).heap.size):=NB.out.lt;have HO:=Hj ho;have HC:=Hj hc;have HDK:=Hj (And.intro hd hk);have HL:=Hj hl;have w64:wrap64 (d+1)=d+1:=by unfold wrap64;omega
 have ft:=fun(t:Tk) w=>tkv_ps t w;clear BL h ho hc hl hd hk;generalize hZ:(r.bind fun _ s=>within (dK k) o c s)=Z;have HZ:=Hj hZ;clear hZ;go_enter Tryz.func115,Tryz.ntmps115;go_upto_region 1 with fail;change Code.wp _ _ _ _ (w.alloc zX);generalize w.alloc zX=w0 at *;go_wp2_with fail;refine(rrtok_any R r w0 HU.out).mono ?_;rintro q w1 ⟨t,rfl, -,ht,hb⟩;have HT:=Hj ht;have HU1:=Hj (HU.out.below hb);have NB1:=Hj (NB.out.below hb NB.out.lt);have HF1:=Hj (fx_bel HF.out hb);have HS1:=Hj (Nat.lt_of_lt_of_le HSZ.out hb.size);clear ht hb HU NB HF HSZ;go_wp2_with fail;refine(rris_any R r o HO.out w1 HU1.out).mono ?_;rintro q w2 ⟨b,rfl,hb2,bl⟩;have HB:=Hj hb2;have HU2:=Hj (HU1.out.below bl);have NB2:=Hj (NB1.out.below bl NB1.out.lt);have HF2:=Hj (fx_bel HF1.out bl);have HS2:=Hj (Nat.lt_of_lt_of_le HS1.out bl.size);clear hb2 bl HU1 NB1 HF1 HS1
 cases b with
 | false=>
  have E:Hid (∀w3,U R (r.bind fun _ _=>(.no 110 t.ps:Rs Unit)) w3→U R Z w3∧∀a s,Z ≠ .ok a s):=fun w3 hu=>by
   rw[←HZ.out]
   cases r with
   | no c p=>exact⟨hu.of rfl,fun a s e=>by cases e⟩
   | ok a s=>
    have h1:=(res_eq (HB.out a s rfl)).2 rfl;have e1:within (dK k) o c s=.no 110 t.ps:=by unfold within bad;rw[if_neg h1,HT.out a s rfl]
    refine⟨hu.of (by show _=(within (dK k) o c s).st;rw[e1];rfl),fun b s' e=>?_⟩;change within (dK k) o c s=_ at e;rw[e1]at e;cases e
  go_wp2_with fail;refine(rrfail_any R r 110 t.ps (by decide) w2 HU2.out).mono ?_;rintro q w3 ⟨rfl,h3,f3⟩;have HE:=Hj (E.out w3 h3);have NB3:=Hj (f3.blk NB2.out NB2.out.lt (on_ne HRL.out));have HF3:=Hj (fx_trans HF2.out f3);clear h3 f3 HU2 NB2 HF2 E
  go_wp2_with (refine st_ex zeroH w.heap.size _ NB3.out rfl rfl _ _ rfl rfl rfl ?_)
  exact bodyPost_ret (rs_ex rfl _ _ w.heap.size zeroH rfl (NB3.out.rowS _)) rfl (px_ret (e':=zEx) HRL.out zEx_in (fun a s e=>absurd e (HE.out.2 a s)) HE.out.1 HF3.out _)
 | true=>
  go_wp2_with fail;refine(rrdeeper_any R r (d+1) t.ps w2 HU2.out).mono ?_;rintro q w3 ⟨rfl,h3,f3⟩;have HU3:=Hj h3;have NB3:=Hj (f3.blk NB2.out NB2.out.lt (on_ne HRL.out));have HF3:=Hj (fx_trans HF2.out f3);have HS3:=Hj (Nat.lt_of_lt_of_le HS2.out f3.size);clear h3 f3 HU2 NB2 HF2 HS2
  cases hok:(r.bind fun _ s=>dpT (d+1) t.ps s).isOk with
  | false=>
   have E:Hid (U R Z w3∧∀a s,Z ≠ .ok a s):=by
    show U R Z w3∧_;rw[←HZ.out]
    cases r with
    | no c p=>exact⟨HU3.out.of rfl,fun a s e=>by cases e⟩
    | ok a s=>
     have h1:=(res_eq (HB.out a s rfl)).1 rfl
     have hk0:k=0:=by
      have h2:(dpT (d+1) t.ps s).isOk=false:=hok;unfold dpT at h2
      split at h2
      ·have:=HDK.out;omega
      ·cases h2
     subst hk0;have e1:within (dK 0) o c s=.no 111 t.ps:=by unfold within;rw[if_pos h1,HT.out a s rfl];rfl
     have e2:dpT (d+1) t.ps s=.no 111 t.ps:=by unfold dpT;rw[if_pos (by have:=HDK.out;omega)]
     refine⟨HU3.out.of (by show(dpT (d+1) t.ps s).st=(within (dK 0) o c s).st;rw[e1,e2];rfl),fun b s' e=>?_⟩;change within (dK 0) o c s=_ at e;rw[e1]at e;cases e
   clear HU3
   go_wp2_with (refine st_ex zeroH w.heap.size _ NB3.out rfl rfl _ _ rfl rfl rfl ?_)
   exact bodyPost_ret (rs_ex rfl _ _ w.heap.size zeroH rfl (NB3.out.rowS _)) rfl (px_ret (e':=zEx) HRL.out zEx_in (fun a s e=>absurd e (E.out.2 a s)) E.out.1 HF3.out _)
  | true=>
   obtain⟨a,s,e1⟩:∃a s,r=.ok a s:=by
    cases r with
    | no c p=>cases hok
    | ok a s=>exact⟨a,s,rfl⟩
   subst e1
   have hle:¬24<d+1:=fun x=>by
    have h2:(dpT (d+1) t.ps s).isOk=true:=hok;unfold dpT at h2;rw[if_pos x]at h2;cases h2
   obtain⟨k,rfl⟩:∃k',k=k'+1:=⟨k - 1,by have:=HDK.out;omega⟩;have h1:s.hd.tx=o:=(res_eq (HB.out a s rfl)).1 rfl
   have HE0:Hid (((lvl (unK k) 5 s.tk).bind fun e s'=>(expT c s').bind fun _ s''=>.ok e s'')=Z):=by
    show _=Z;rw[←HZ.out];show _=within (dK (k+1)) o c s;unfold within;rw[if_pos h1];rfl
   have HU4:Hid (U R (.ok () s) w3):=by
    have e2:dpT (d+1) t.ps s=.ok () s:=by unfold dpT;rw[if_neg hle]
    have h2:U R (dpT (d+1) t.ps s) w3:=HU3.out;rw[e2]at h2;exact h2
   have HX:Hid (expT o s=.ok () s.tk):=by show expT o s=_;unfold expT;rw[if_pos h1]
   have HLL:=Hj (HL.out k rfl);clear HU3 hok hle HZ HL HB HT h1;go_wp2_with fail;refine(rrmust_any R (.ok () s) o HO.out w3 HU4.out).mono ?_;rintro q w4 ⟨rfl,h4,f4⟩
   have HU5:Hid (U R (.ok () s.tk:Rs Unit) w4):=by
    have h5:U R (expT o s) w4:=h4;rw[HX.out]at h5;exact h5
   have NB4:=Hj (f4.blk NB3.out NB3.out.lt (on_ne HRL.out));have HF4:=Hj (fx_trans HF3.out f4);have HS4:=Hj (Nat.lt_of_lt_of_le HS3.out f4.size);clear h4 f4 HU4 NB3 HF3 HS3 HX;go_wp2_with fail;refine(HLL.out Unit (.ok () s.tk) w4 (d+1) 0 (by have:=HDK.out.1;omega) rfl HU5.out).mono ?_;rintro q w5 ⟨b,rfl,xb,eb,h5,f5⟩;change ∀a s',lvl (unK k) 5 s.tk=.ok a s'→b.eqv a at eb;change U R (lvl (unK k) 5 s.tk) w5 at h5;generalize lvl (unK k) 5 s.tk=P at *;have BLb:=bx_bel (Below.refl w5.heap.size w5) (Nat.le_refl _) (xO b.h);have hs5:=f5.size;have hs4:=HS4.out;have HX5:=Hj ((xb.imp (D':=fun k=>w.heap.size<k) (fun k _ (x:w4.heap.size≤k)=>by omega)).bel BLb);have BB:Hid (Blk (bx w5 (xO b.h)) w5.heap.size 41 b.h.va):=bx_ex w5 b.h;have n1:=f5.blk NB4.out NB4.out.lt (on_ne HRL.out);have NB5:=Hj (n1.below BLb n1.lt);have HF5:=Hj (fx_bel (fx_trans HF4.out f5) BLb);have HU6:=Hj (h5.below BLb);have EB:=Hj eb;have HG:Hid (R<w5.heap.size):=by have:=HRL.out;show R<w5.heap.size;omega
   clear xb eb h5 f5 BLb hs5 hs4 n1 HU5 NB4 HF4 HS4 HLL w64;unfold EH.v;go_upto_region 11 with fail;rw[bx_x];change Code.wp _ _ _ _ (bx w5 (xO b.h));generalize w5.heap.size=g at *;generalize bx w5 (xO b.h)=w6 at *;go_wp2_with fail;refine(rrmust_any R P c HC.out w6 HU6.out).mono ?_;rintro q w7 ⟨rfl,h7,f7⟩;have BB7:=Hj (f7.blk BB.out BB.out.lt (on_ne HG.out));have NB7:=Hj (f7.blk NB5.out NB5.out.lt (on_ne HRL.out));have HX7:=Hj (HX5.out.fx f7 (on_not (fun x=>Nat.lt_asymm x HRL.out)));have HF7:=Hj (fx_trans HF5.out f7)
   have HU7:Hid (U R Z w7):=by
    show U R Z w7;rw[←HE0.out];refine h7.of ?_
    cases P with
    | no c p=>rfl
    | ok e s'=>show(expT c s').st=((expT c s').bind fun _ s''=>.ok e s'').st;cases expT c s'<;>rfl
   have EBZ:Hid (∀a s,Z=.ok a s→b.eqv a):=fun a s' e=>by
    rw[←HE0.out]at e;obtain⟨e1,s1,h1,h2⟩:=ok_inv e;obtain⟨u,s2, -,h3⟩:=ok_inv h2;cases h3;exact EB.out _ _ h1
   clear h7 f7 BB NB5 HX5 HF5 HU6 EB
   go_wp2_with (first
    | refine ld_ex b.h g BB7.out rfl _ rfl rfl ?_
    | refine st_ex b.h w.heap.size _ NB7.out rfl rfl _ _ rfl rfl rfl ?_)
   exact bodyPost_ret (rs_ex rfl _ _ w.heap.size b.h rfl (NB7.out.rowS _)) rfl (px_ret HRL.out HX7.out EBZ.out HU7.out HF7.out _)
theorem rrunary_of (R k:Nat)(hk:k≤24)(ha:RA R k)(hu:∀k',k=k'+1→RU R k'):RU R k:=by
 intro α r w d hd h;have BL:=bel_one w zX;have HU:=Hj (h.below BL);have NB:Hid (Blk (w.alloc zX) w.heap.size 41 zeroH.va):=Blk.new _ _ _;have HRL:=Hj h.lt;have HF:Hid (Fx (On R) w.heap.size w (w.alloc zX)):=Fx.of BL;have HSZ:Hid (w.heap.size<(w.alloc zX).heap.size):=NB.out.lt;have HDK:=Hj (And.intro hd hk);have HA:=Hj ha;have HUN:=Hj hu;have w64:wrap64 (d+1)=d+1:=by unfold wrap64;omega
 clear BL h ha hu hd hk;generalize hZ:(r.bind fun _ s=>unK k s)=Z;have HZ:=Hj hZ;clear hZ;go_enter Tryz.func74,Tryz.ntmps74;go_upto_region 1 with fail;change Code.wp _ _ _ _ (w.alloc zX);generalize w.alloc zX=w0 at *;go_wp2_with fail;refine(rrtok_any R r w0 HU.out).mono ?_;rintro q w1 ⟨t,rfl,htd,ht,hb⟩;have hb2:Below w0.heap.size w0 (w1.alloc (.cells t.vs 62)):=bel_alloc hb _;have HU2:=Hj (HU.out.below hb2);have NB2:=Hj (NB.out.below hb2 NB.out.lt);have TB:Hid (Blk (w1.alloc (.cells t.vs 62)) w1.heap.size 62 t.vs):=Blk.new _ _ _;have HF2:=Hj (fx_bel HF.out hb2);have HT:=Hj ht;have HTD:=Hj htd;have HS2:Hid (w.heap.size<w1.heap.size∧w1.heap.size<(w1.alloc (.cells t.vs 62)).heap.size):=⟨Nat.lt_of_lt_of_le HSZ.out hb.size,TB.out.lt⟩;clear hb hb2 HU NB HF HSZ ht htd;unfold Tk.v;go_upto_region 2 with fail;change (Code.region 2 _ _).wp _ _ _ (w1.alloc (.cells t.vs 62));generalize w1.alloc (.cells t.vs 62)=w2 at *;generalize w1.heap.size=tb at *;go_wp2_with fail;refine(rris_any R r [45] (by decide) w2 HU2.out).mono ?_;rintro q w3 ⟨b,rfl,hb,bl⟩;have HB:=Hj hb;have HU3:=Hj (HU2.out.below bl);have NB3:=Hj (NB2.out.below bl NB2.out.lt);have TB3:=Hj (TB.out.below bl TB.out.lt);have HF3:=Hj (fx_bel HF2.out bl)
 have HS3:Hid (w.heap.size<tb∧tb<w3.heap.size):=⟨HS2.out.1,Nat.lt_of_lt_of_le HS2.out.2 bl.size⟩;clear hb bl HU2 NB2 TB HF2 HS2
 go_upto_if 12 with fail
 go_cut [6] (fun v wx=>∃op:Int,v=.int .u8 op∧Hid (0≤op∧op≤255)∧Hid (∀a s,r=.ok a s→op=unT s.hd.tx)∧Hid (Below w3.heap.size w3 wx))
 case first=>
  cases b with
  | true=>
   go_wp2_with fail;go_meet;refine⟨17,rfl,Hj (by decide),(fun a s hr=>?_),Below.refl _ _⟩;have h1:=(res_eq (HB.out a s hr)).1 rfl;unfold unT;rw[if_pos h1]
  | false=>
   go_wp2_with fail;refine(rris_any R r [33] (by decide) w3 HU3.out).mono ?_;rintro q w4 ⟨b,rfl,hb,bl⟩;have HB4:=Hj hb;have HBL4:=Hj bl;clear hb bl
   cases b with
   | true=>
    go_wp2_with fail;go_meet;refine⟨18,rfl,Hj (by decide),(fun a s hr=>?_),HBL4.out⟩;have h1:=(res_eq (HB.out a s hr)).2 rfl;have h2:=(res_eq (HB4.out a s hr)).1 rfl;unfold unT;rw[if_neg h1,if_pos h2]
   | false=>
    go_wp2_with fail;go_meet;refine⟨0,rfl,Hj (by decide),(fun a s hr=>?_),HBL4.out⟩;have h1:=(res_eq (HB.out a s hr)).2 rfl;have h2:=(res_eq (HB4.out a s hr)).2 rfl;unfold unT;rw[if_neg h1,if_neg h2]
 case rest=>
  obtain⟨op,rfl,HOP,HOT,BV⟩:=hcut;replace HU3:=Hj (HU3.out.below BV.out);replace NB3:=Hj (NB3.out.below BV.out NB3.out.lt);replace TB3:=Hj (TB3.out.below BV.out TB3.out.lt);replace HF3:=Hj (fx_bel HF3.out BV.out);replace HS3:Hid (w.heap.size<tb∧tb<wc.heap.size):=⟨HS3.out.1,Nat.lt_of_lt_of_le HS3.out.2 BV.out.size⟩;clear BV HB
  by_cases c:op=0
  ·subst c
   have E:Hid ((r.bind fun _ s=>atom (dK k) s)=Z):=by
    show _=Z;rw[←HZ.out]
    cases r with
    | no c p=>rfl
    | ok a s=>
     show atom (dK k) s=unK k s;rw[unK_eq];unfold un;rw[if_pos (HOT.out a s rfl).symm]
   have A:=Hj (HA.out α r wc d HDK.out.1 HU3.out);rw[E.out]at A;clear HZ E HOT HUN HA w64;go_wp2_with fail;refine A.out.mono ?_;rintro q w4 ⟨b,rfl,xb,eb,h4,f4⟩;have NB4:=Hj (f4.blk NB3.out NB3.out.lt (on_ne HRL.out));have HF4:=Hj (fx_trans HF3.out f4);have HX4:=Hj (xb.imp (D':=fun k=>w.heap.size<k) (fun k _ (x:wc.heap.size≤k)=>by have:=HS3.out;omega));have HU4:=Hj h4;have EB:=Hj eb;clear f4 xb h4 eb A NB3 HF3 HU3
   go_wp2_with (refine st_ex b.h w.heap.size _ NB4.out rfl rfl _ _ rfl rfl rfl ?_)
   exact bodyPost_ret (rs_ex rfl _ _ w.heap.size b.h rfl (NB4.out.rowS _)) rfl (px_ret HRL.out HX4.out EB.out HU4.out HF4.out _)
  ·have c2:=b_ne c
   have HC:=Hj c;have t1:wc.cell? ⟨tb,1,none⟩=some (.int .i64 t.ps):=TB3.out.cell 1;clear c HA;go_wp2_with fail;refine(rrdeeper_any R r (d+1) t.ps wc HU3.out).mono ?_;rintro q w4 ⟨rfl,h4,f4⟩;have HRT:Hid (R<tb):=by have h1:=HRL.out;have h2:=HS3.out;show R<tb;omega
   have HU4:=Hj h4;have NB4:=Hj (f4.blk NB3.out NB3.out.lt (on_ne HRL.out));have TB4:=Hj (f4.blk TB3.out TB3.out.lt (on_ne HRT.out));have HF4:=Hj (fx_trans HF3.out f4);have HS4:Hid (w.heap.size<tb∧tb<w4.heap.size):=⟨HS3.out.1,Nat.lt_of_lt_of_le HS3.out.2 f4.size⟩;clear h4 f4 HU3 NB3 TB3 HF3 HS3 t1
   cases hok:(r.bind fun _ s=>dpT (d+1) t.ps s).isOk with
   | false=>
    have E:Hid (U R Z w4∧∀a s,Z ≠ .ok a s):=by
     show U R Z w4∧_;rw[←HZ.out]
     cases r with
     | no c p=>exact⟨HU4.out.of rfl,fun a s e=>by cases e⟩
     | ok a s=>
      have h1:¬unT s.hd.tx=0:=by rw[←HOT.out a s rfl];exact HC.out
      have hk0:k=0:=by
       have h2:(dpT (d+1) t.ps s).isOk=false:=hok;unfold dpT at h2
       split at h2
       ·have:=HDK.out;omega
       ·cases h2
      subst hk0;have e1:unK 0 s=.no 111 t.ps:=by rw[unK_eq];unfold un;rw[if_neg h1,HT.out a s rfl];rfl
      have e2:dpT (d+1) t.ps s=.no 111 t.ps:=by unfold dpT;rw[if_pos (by have:=HDK.out;omega)]
      refine⟨HU4.out.of (by show(dpT (d+1) t.ps s).st=(unK 0 s).st;rw[e1,e2];rfl),fun b s' e=>?_⟩;change unK 0 s=_ at e;rw[e1]at e;cases e
    clear HU4
    go_wp2_with (refine st_ex zeroH w.heap.size _ NB4.out rfl rfl _ _ rfl rfl rfl ?_)
    exact bodyPost_ret (rs_ex rfl _ _ w.heap.size zeroH rfl (NB4.out.rowS _)) rfl (px_ret (e':=zEx) HRL.out zEx_in (fun a s e=>absurd e (E.out.2 a s)) E.out.1 HF4.out _)
   | true=>
    obtain⟨a,s,e1⟩:∃a s,r=.ok a s:=by
     cases r with
     | no c p=>cases hok
     | ok a s=>exact⟨a,s,rfl⟩
    subst e1
    have hle:¬24<d+1:=fun x=>by
     have h2:(dpT (d+1) t.ps s).isOk=true:=hok;unfold dpT at h2;rw[if_pos x]at h2;cases h2
    obtain⟨k,rfl⟩:∃k',k=k'+1:=⟨k - 1,by have:=HDK.out;omega⟩;have hop:op=unT s.hd.tx:=HOT.out a s rfl
    have HE0:Hid (((unK k s.tk).bind fun e s'=>whole (opX op s.hd.ps [e]) s')=Z):=by
     show _=Z;rw[←HZ.out];show _=unK (k+1) s;rw[unK_eq (k+1)];unfold un;rw[if_neg (by rw[←hop];exact HC.out),hop];rfl
    have HU5:Hid (U R (.ok () s) w4):=by
     have e2:dpT (d+1) t.ps s=.ok () s:=by unfold dpT;rw[if_neg hle]
     have h2:U R (dpT (d+1) t.ps s) w4:=HU4.out;rw[e2]at h2;exact h2
    have hkd:s.hd.kd≠0:=HU5.out.good.kd (unT_ne (by rw[←PS.hd,←hop];exact HC.out));have NX:=Hj (rrnext_any R (.ok () s) w4 HU5.out (fun a s' e=>by cases e;exact hkd));have hts:=HT.out a s rfl;subst hts;have HLL:=Hj (HUN.out k rfl);clear HU4 HU5 hok hle HZ HUN HOT HT hkd hop;go_wp2_with fail;refine NX.out.mono ?_;rintro q w5 ⟨t5,rfl, -, -,h5,f5⟩;have HU5:Hid (U R (.ok () s.tk:Rs Unit) w5):=h5;have NB5:=Hj (f5.blk NB4.out NB4.out.lt (on_ne HRL.out));have TB5:=Hj (f5.blk TB4.out TB4.out.lt (on_ne HRT.out));have HF5:=Hj (fx_trans HF4.out f5);have HS5:Hid (w.heap.size<tb∧tb<w5.heap.size):=⟨HS4.out.1,Nat.lt_of_lt_of_le HS4.out.2 f5.size⟩;clear h5 f5 NX NB4 TB4 HF4 HS4;go_wp2_with fail;refine(HLL.out Unit (.ok () s.tk) w5 (d+1) (by have:=HDK.out.1;omega) HU5.out).mono ?_;rintro q w6 ⟨b,rfl,xb,eb,h6,f6⟩;change ∀a s',unK k s.tk=.ok a s'→b.eqv a at eb;change U R (unK k s.tk) w6 at h6;generalize unK k s.tk=P at *;have BLb:=bx_bel (Below.refl w6.heap.size w6) (Nat.le_refl _) (xO b.h);have hs6:=f6.size;have hs5:=HS5.out;have HX6:=Hj ((xb.imp (D':=fun k=>w.heap.size<k) (fun k _ (x:w5.heap.size≤k)=>by omega)).bel BLb);have BB:Hid (Blk (bx w6 (xO b.h)) w6.heap.size 41 b.h.va):=bx_ex w6 b.h
    have n1:=f6.blk NB5.out NB5.out.lt (on_ne HRL.out);have n2:=f6.blk TB5.out TB5.out.lt (on_ne HRT.out);have NB6:=Hj (n1.below BLb n1.lt);have TB6:=Hj (n2.below BLb n2.lt);have HF6:=Hj (fx_bel (fx_trans HF5.out f6) BLb);have HU6:=Hj (h6.below BLb);have HS6:Hid (w.heap.size<(bx w6 (xO b.h)).heap.size):=(n1.below BLb n1.lt).lt;have EB:=Hj eb;clear xb eb h6 f6 BLb hs5 hs6 n1 n2 HU5 NB5 TB5 HF5 HS5 HLL w64;unfold EH.v;go_upto_region 14 with fail;rw[bx_x];change Code.wp _ _ _ _ (bx w6 (xO b.h));generalize w6.heap.size=g at *;generalize bx w6 (xO b.h)=w7 at *;have t1:w7.cell? ⟨tb,1,none⟩=some (.int .i64 s.hd.ps):=TB6.out.cell 1
    go_wp2_with (refine ld_ex b.h g BB.out rfl _ rfl rfl ?_)
    have BL8:=bel_one w7 (.cells b.h.vs.toArray 41);have HX8:=Hj (one_in (op:=op) (ps:=s.hd.ps) (nm:=[]) HX6.out HS6.out HOP.out.1 HOP.out.2 HTD.out.ps0 HTD.out.ps1 (Nat.zero_le _) (t:=41) rfl);have HU8:=Hj (HU6.out.below BL8);have NB8:=Hj (NB6.out.below BL8 NB6.out.lt);have HF8:=Hj (fx_bel HF6.out BL8);clear BL8 HX6 HU6 NB6 HF6 BB TB6 t1;change Calls _ _ _ (w7.alloc (.cells b.h.vs.toArray 41)) _;generalize w7.alloc (.cells b.h.vs.toArray 41)=w8 at *;generalize w7.heap.size=rw_ at *;refine(rrwhole_any R P ⟨op,s.hd.ps,false,0,0,[],⟨some ⟨rw_,0,none⟩,1,1⟩⟩ (opX op s.hd.ps []) rfl w8 HU8.out).mono ?_;rintro q w9 ⟨rfl,h9,f9⟩
    have HU9:Hid (U R Z w9):=by
     show U R Z w9;rw[←HE0.out];refine h9.of ?_
     cases P with
     | no c x=>rfl
     | ok b s'=>exact whole_st (opX op s.hd.ps []) (opX op s.hd.ps [b]) rfl s'
    have NB9:=Hj (f9.blk NB8.out NB8.out.lt (on_ne HRL.out));have HX9:=Hj (HX8.out.fx f9 (on_not (fun x=>Nat.lt_asymm x HRL.out)));have HF9:=Hj (fx_trans HF8.out f9)
    have EBZ:Hid (∀a s',Z=.ok a s'→(Ex.mk ⟨op,s.hd.ps,false,0,0,[],⟨some ⟨rw_,0,none⟩,1,1⟩⟩ (fun _=>b)).eqv a):=fun a s' e=>by
     rw[←HE0.out]at e;obtain⟨e1,s1,h1,h2⟩:=ok_inv e;have:=whole_ok h2;subst this;exact one_eqv (EB.out _ _ h1)
    clear HU8 NB8 HX8 HF8 h9 f9 EB
    go_wp2_with (refine st_ex ⟨op,s.hd.ps,false,0,0,[],⟨some ⟨rw_,0,none⟩,1,1⟩⟩ w.heap.size _ NB9.out rfl rfl _ _ rfl rfl rfl ?_)
    exact bodyPost_ret (rs_ex rfl _ _ w.heap.size ⟨op,s.hd.ps,false,0,0,[],⟨some ⟨rw_,0,none⟩,1,1⟩⟩ rfl (NB9.out.rowS _)) rfl (px_ret (e':=.mk ⟨op,s.hd.ps,false,0,0,[],⟨some ⟨rw_,0,none⟩,1,1⟩⟩ (fun _=>b)) HRL.out HX9.out EBZ.out HU9.out HF9.out _)
end Go.Proofs.YthmlhkllbichgaaGreatDoor
