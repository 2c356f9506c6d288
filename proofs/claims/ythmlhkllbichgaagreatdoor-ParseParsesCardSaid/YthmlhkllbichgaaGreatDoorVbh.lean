/-
  ParseParses: a source's tree, or what is wrong with it, is the reference's. (part 34 of 38) Conditions: none beside what the card ties.
-/
import Derived.Test.YthmlhkllbichgaaGreatDoorVbg
namespace Go.Proofs.YthmlhkllbichgaaGreatDoor
set_option maxHeartbeats 16000000
open Go.RowKit Go.Maps
set_option maxRecDepth 100000
theorem rru_any (R:Nat):∀k,k≤24→RU R k
 | 0,h=>rrunary_of R 0 h (rratom_of R 0 h (rrwithin_of R 0 h (fun k' e=>by cases e))) (fun k' e=>by cases e)
 | k+1,h=>rrunary_of R (k+1) h (rratom_of R (k+1) h (rrwithin_of R (k+1) h (fun k' e=>by cases e;exact rrlevel_any R k (rru_any R k (Nat.le_of_succ_le h)) 5 (Nat.le_refl _)))) (fun k' e=>by cases e;exact rru_any R k (Nat.le_of_succ_le h))
theorem rrex_any {α:Type}(R k:Nat)(hk:k≤24)(r:Rs α)(w:World)(d:Int)(hd:d+k=24)(h:U R r w):Calls Tryz.prog 41 #[.pointer (some ⟨R,0,none⟩),.int .i64 0,.int .i64 d] w (PX R w (r.bind fun _ s=>exK k s)):=
 rrlevel_any R k (rru_any R k hk) 5 (Nat.le_refl _) α r w d 0 hd rfl h
theorem rrwi_any {α:Type}(R k:Nat)(hk:k≤24)(r:Rs α)(w:World)(d:Int)(o c:List UInt8)(ho:o∈resW)(hc:c∈resW)(hd:d+k=24)(h:U R r w):Calls Tryz.prog 115 #[.pointer (some ⟨R,0,none⟩),.string ⟨o.toArray⟩,.string ⟨c.toArray⟩,.int .i64 d] w (PX R w (r.bind fun _ s=>within (dK k) o c s)):=
 rrwithin_of R k hk (fun k' e=>by cases e;exact rrlevel_any R k' (rru_any R k' (Nat.le_of_succ_le hk)) 5 (Nat.le_refl _)) α r w d o c ho hc hd h
theorem tk_last {l:List Tk}(hg:Good l){i:Nat}(hi:i<l.length)(hk:(tkAt l i).kd=0):¬i+1<l.length:=by
 have h:=good_at hg i hi;have h2:=drop_hd l i;have h3:(l.drop i).length=l.length-i:=List.length_drop ..
 cases e:l.drop i with
 | nil=>rw[e,List.length_nil]at h3;omega
 | cons t q=>
  rw[e]at h h2 h3;rcases h with⟨rfl, -⟩|⟨h, -⟩
  ·have h3:1=l.length-i:=h3
   omega
  ·have:t=tkAt l i:=h2
   subst this;have:=h.kd;omega
theorem rrnext_end {α:Type}(R:Nat)(r:Rs α)(w:World)(h:U R r w)(hk:∀a s,r=.ok a s→s.hd.kd=0) :
  Calls Tryz.prog 68 #[.pointer (some ⟨R,0,none⟩)] w fun e w'=>∃t,e=.returned t.v∧Hd t∧(∀a s,r=.ok a s→t=s.hd)∧U R r w'∧Fx (On R) w.heap.size w w':=by
 obtain⟨T,o,c,l,i,e,a,n,x,H,g⟩:=h;have BL:Below w.heap.size w (w.alloc zT):=bel_one w _;have HW:=Hj (H.below BL);have HG:=Hj g;have HK:=Hj hk;have k0:Blk (w.alloc zT) w.heap.size 62 #[.int .u8 0,.int .i64 0,.string ⟨#[]⟩,.int .i32 0,.int .u64 0]:=Blk.new _ _ _;have HNB:=Hj k0;have HF:Hid (Fx (On R) w.heap.size w (w.alloc zT)):=Fx.of BL;have HRL:Hid (R<w.heap.size):=H.lt;clear H g hk BL k0;go_enter Tryz.func68,Tryz.ntmps68;go_upto_region 1 with fail;change (Code.region 1 _ _).wp _ _ _ (w.alloc zT);generalize w.alloc zT=w0 at *;go_wp2_with fail;refine(rrtok_w R T o c l i e a n x w0 HW.out).mono ?_;rintro e' w1 ⟨rfl,hb⟩;have hb2:Below w0.heap.size w0 (w1.alloc (.cells (tkAt l i).vs 62)):=bel_alloc hb _;have HW2:=Hj (HW.out.below hb2);have HNB2:=Hj (HNB.out.below hb2 HNB.out.lt);have TB:Hid (Blk (w1.alloc (.cells (tkAt l i).vs 62)) w1.heap.size 62 (tkAt l i).vs):=Blk.new _ _ _;have HF2:=Hj (fx_bel HF.out hb2)
 have HTN:Hid (w.heap.size<w1.heap.size∧w.heap.size≠w1.heap.size∧R≠w1.heap.size):=by
  have h1:=Nat.lt_of_lt_of_le HNB.out.lt hb.size;have h2:=HRL.out;exact⟨h1,by omega,by omega⟩
 clear hb hb2 HW HNB HF;unfold Tk.v;go_upto_region 2 with fail;change (Code.region 2 _ _).wp _ _ _ (w1.alloc (.cells (tkAt l i).vs 62));generalize w1.alloc (.cells (tkAt l i).vs 62)=w2 at *;generalize w1.heap.size=tb at *;have HD:Below w2.heap.size w2 w2.drew:=bel_drew (Below.refl _ _);have HW3:=Hj (HW2.out.below HD);have HNB3:=Hj (HNB2.out.below HD HNB2.out.lt);have TB3:=Hj (TB.out.below HD TB.out.lt);have HF3:=Hj (fx_bel HF2.out HD);have HS0:w2.drew.cell? ⟨R,0,none⟩=some (.slice (some ⟨T,o,none⟩) l.length c)∧w2.drew.cell? ⟨R,1,none⟩=some (.int .i64 (i:Int)):=⟨HW3.out.blk.cell 0,HW3.out.blk.cell 1⟩;have hl9:l.length≤maxLen:=Nat.le_trans HW3.out.lc HW3.out.cm;unfold maxLen at hl9;have ov:IntKind.i64.wrap ((l.length:Int)-1)=(l.length:Int)-1:=by rw[IntKind.wrap_i64];omega
 clear HD HW2 HNB2 TB HF2;refine region_tree (S:=fun w'=>w'.cell? ⟨R,0,none⟩=some (.slice (some ⟨T,o,none⟩) l.length c)∧w'.cell? ⟨R,1,none⟩=some (.int .i64 (i:Int))) _ (.take 0 (.take 1 (.take 2 (.take 3 (.take 4 (.take 5 (.take 6 (.take 7 (.take 8 (.take 9 (.take 10 .done))))))))))) (by kernel_rfl) (by kernel_rfl) rfl (by kernel_rfl) (by kernel_rfl) (fun _ _ d _ _ h=>by cases d<;>exact h) HS0 ?_;clear HS0;generalize w2.drew=w3 at *
 iterate 11
  refine WalkT.take (v:=?_) rfl (by rfl) ?_ ?_;rotate_left
  ·(intro w' hSw;obtain⟨r0,r1⟩:=hSw;go_simp<;>with_reducible rfl)
  try simp only[Act.put,List.setIfInBounds_toArray,List.set_cons_zero,List.set_cons_succ]
 refine WalkT.done ?_;have hiw:=HW3.out.hi
 by_cases hlt:i+1<l.length
 ·have d1:(i:Int)<(l.length:Int)-1:=by omega
  have m1:w3.cell? ⟨R,1,none⟩=some (.int .i64 (i:Int)):=HW3.out.blk.cell 1;have z1:w3.frozen? ⟨R,1,none⟩=false:=HW3.out.blk.frozen 1;have ov2:IntKind.i64.wrap ((i:Int)+1)=(i:Int)+1:=by rw[IntKind.wrap_i64];omega
  have b1:Blk (w3.setCell ⟨R,1,none⟩ (.int .i64 ((i:Int)+1))) R 74 #[.slice (some ⟨T,o,none⟩) l.length c,.int .i64 ((i+1:Nat):Int),.int .i64 e,.int .i64 a,.int .i64 n,.int .i64 x]:=HW3.out.blk.set_ 1 (.int .i64 ((i:Int)+1));have F:=fx_set (Fx.refl (On R) _ w3) (p:=⟨R,1,none⟩) (.inl rfl) (.int .i64 ((i:Int)+1));have HW4:=Hj (HW3.out.nums (i':=i+1) b1 F hlt);have HNB4:=Hj (HNB3.out.far (p:=⟨R,1,none⟩) (Nat.ne_of_gt HRL.out) (.int .i64 ((i:Int)+1)));have TB4:=Hj (TB3.out.far (p:=⟨R,1,none⟩) (Ne.symm HTN.out.2.2) (.int .i64 ((i:Int)+1)));have HF4:=Hj (fx_trans HF3.out F);clear b1 F HW3 HNB3 TB3 HF3 hiw;go_upto_region 4 with fail;change (Code.region 4 _ _).wp _ _ _ (w3.setCell ⟨R,1,none⟩ (.int .i64 ((i:Int)+1)));clear m1 z1 ov ov2;generalize w3.setCell ⟨R,1,none⟩ (.int .i64 ((i:Int)+1))=w4 at *
  go_wp2_with (first
   | refine ld_tok (tkAt l i) tb TB4.out rfl _ rfl rfl ?_
   | refine st_tok (tkAt l i) w.heap.size _ HNB4.out rfl rfl _ _ rfl rfl rfl ?_)
  refine bodyPost_ret (rs_tok rfl _ _ w.heap.size (tkAt l i) rfl (HNB4.out.rowS _)) rfl ⟨_,rfl,hd_at HW4.out.good (Nat.lt_of_succ_lt HW4.out.hi),fun b s hr=>?_,⟨T,o,c,l,i+1,e,a,n,x,HW4.out.fx (wr1_row w4 w.heap.size _).1 HW4.out.lt (fun k hk (q:k=w.heap.size)=>by have:=HRL.out;omega),?_⟩,fx_row HF4.out (.inr (Nat.le_refl _)) _⟩
  ·subst hr
   obtain⟨-, -, -, -,g, -⟩:=HG.out;unfold PS.hd;rw[g,drop_hd]
  ·have g:=HG.out
   cases r with
   | no c' p'=>exact g
   | ok q s=>
    have hk:=HK.out q s rfl;obtain⟨-, -, -, -,g5, -⟩:=g;unfold PS.hd at hk;rw[g5,drop_hd]at hk;exact absurd HW4.out.hi (tk_last HW4.out.good (Nat.lt_of_succ_lt HW4.out.hi) hk)
 ·have d1:¬(i:Int)<(l.length:Int)-1:=by omega
  go_wp2_with (first
   | refine ld_tok (tkAt l i) tb TB3.out rfl _ rfl rfl ?_
   | refine st_tok (tkAt l i) w.heap.size _ HNB3.out rfl rfl _ _ rfl rfl rfl ?_)
  refine bodyPost_ret (rs_tok rfl _ _ w.heap.size (tkAt l i) rfl (HNB3.out.rowS _)) rfl ⟨_,rfl,hd_at HW3.out.good HW3.out.hi,fun b s hr=>?_,⟨T,o,c,l,i,e,a,n,x,HW3.out.fx (wr1_row w3 w.heap.size _).1 HW3.out.lt (fun k hk (q:k=w.heap.size)=>by have:=HRL.out;omega),?_⟩,fx_row HF3.out (.inr (Nat.le_refl _)) _⟩
  ·subst hr
   obtain⟨-, -, -, -,g, -⟩:=HG.out;unfold PS.hd;rw[g,drop_hd]
  ·have g:=HG.out
   cases r with
   | no c' p'=>exact g
   | ok q s=>
    exact g
theorem rrend_any {α:Type}(R:Nat)(r:Rs α)(w:World)(h:U R r w) :
  Calls Tryz.prog 32 #[.pointer (some ⟨R,0,none⟩),.int .u8 0] w fun e w'=>∃t:Tk,e=.returned t.v∧U R (r.bind fun _ s=>endT () s) w'∧Fx (On R) w.heap.size w w':=by
 have BL:Below w.heap.size w (w.alloc zT):=bel_one w _;have k0:Blk (w.alloc zT) w.heap.size 62 #[.int .u8 0,.int .i64 0,.string ⟨#[]⟩,.int .i32 0,.int .u64 0]:=Blk.new _ _ _;have HNB:=Hj k0;have HF:Hid (Fx (On R) w.heap.size w (w.alloc zT)):=Fx.of BL;have HRL:Hid (R<w.heap.size):=h.lt;have HU:=Hj (h.below BL);clear k0 BL h;go_enter Tryz.func32,Tryz.ntmps32;go_upto_region 1 with fail;change (Code.region 1 _ _).wp _ _ _ (w.alloc zT);generalize w.alloc zT=w0 at *;go_wp2_with fail;refine(rrtok_any R r w0 HU.out).mono ?_;rintro e w1 ⟨t,rfl,htd,ht,hb⟩;have hb2:Below w0.heap.size w0 (w1.alloc (.cells t.vs 62)):=bel_alloc hb _;have HU2:=Hj (HU.out.below hb2);have HNB2:=Hj (HNB.out.below hb2 HNB.out.lt);have TB:Hid (Blk (w1.alloc (.cells t.vs 62)) w1.heap.size 62 t.vs):=Blk.new _ _ _;have HF2:=Hj (fx_bel HF.out hb2);have HT:=Hj ht;have HTD:=Hj htd;clear hb hb2 HNB HF ht htd HU;unfold Tk.v;go_upto_region 2 with fail;change (Code.region 2 _ _).wp _ _ _ (w1.alloc (.cells t.vs 62));generalize w1.alloc (.cells t.vs 62)=w2 at *;generalize w1.heap.size=tb at *;obtain⟨er,m2,he⟩:=HU2.out.err;have HE:=Hj he;have t0:w2.cell? ⟨tb,0,none⟩=some (.int .u8 t.kd):=TB.out.cell 0
 have t1:w2.cell? ⟨tb,1,none⟩=some (.int .i64 t.ps):=TB.out.cell 1;clear he
 have BADC:Hid ((∀a s,r=.ok a s→s.hd.kd≠0)→∀w3,U R (r.bind fun _ _=>(.no 110 t.ps:Rs Unit)) w3→U R (r.bind fun _ s=>endT () s) w3):=fun hn w3 hu=>by
  cases r with
  | no c p=>exact hu.of rfl
  | ok a s=>
   have e:endT () s=.no 110 t.ps:=by
    unfold endT bad;rw[if_neg (hn a s rfl),HT.out a s rfl]
   exact hu.of (by show _=(endT () s).st;rw[e];rfl)
 by_cases c:t.kd=0
 ·have e4:(t.kd == 0)=true:=b_eq c
  cases hr:r with
  | no c' p'=>
   have e0:(er == 0)=false:=b_ne (fun e=>by have:=HE.out.1 e;rw[hr]at this;cases this);subst hr;go_wp2_with fail;refine(rrfail_any R _ 110 t.ps (by decide) w2 HU2.out).mono ?_;rintro e w3 ⟨rfl,hu,hf⟩;have hu2:=BADC.out (fun a s e=>by cases e) w3 hu;have HU3:=Hj hu2;have HNB3:=Hj (hf.blk HNB2.out HNB2.out.lt (Nat.ne_of_gt HRL.out));have HF3:=Hj (fx_trans HF2.out hf);clear hu hf hu2 HU2 HNB2 HF2 m2 t0 t1 TB
   go_wp2_with (refine st_tok noT w.heap.size _ HNB3.out rfl rfl _ _ rfl rfl rfl ?_)
   exact bodyPost_ret (rs_tok rfl _ _ w.heap.size noT rfl (HNB3.out.rowS _)) rfl ⟨_,rfl,HU3.out.fx (wr1_row w3 w.heap.size _).1 HU3.out.lt (fun k hk (q:k=w.heap.size)=>by have:=HRL.out;omega),fx_row HF3.out (.inr (Nat.le_refl _)) _⟩
  | ok a s=>
   have e0:er=0:=HE.out.2 (by rw[hr];rfl);subst e0;subst hr;have hts:=HT.out a s rfl;have NX:=Hj (rrnext_end R (.ok a s) w2 HU2.out (fun a' s' e=>by cases e;rw[←hts,c]));have e5:endT () s=.ok () s:=by unfold endT;rw[if_pos (by rw[←hts];exact c)]
   clear hts;go_wp2_with fail;refine NX.out.mono ?_;rintro e w3 ⟨t',rfl,htd,ht',hu,hf⟩;have HU3:=Hj hu;have HNB3:=Hj (hf.blk HNB2.out HNB2.out.lt (Nat.ne_of_gt HRL.out));have HF3:=Hj (fx_trans HF2.out hf);clear hu hf ht' htd NX HU2 HNB2 HF2 m2 t0 t1 TB
   go_wp2_with (refine st_tok t' w.heap.size _ HNB3.out rfl rfl _ _ rfl rfl rfl ?_)
   refine bodyPost_ret (rs_tok rfl _ _ w.heap.size t' rfl (HNB3.out.rowS _)) rfl ⟨_,rfl,(HU3.out.fx (wr1_row w3 w.heap.size _).1 HU3.out.lt (fun k hk (q:k=w.heap.size)=>by have:=HRL.out;omega)).of ?_,fx_row HF3.out (.inr (Nat.le_refl _)) _⟩;show _=(endT () s).st;rw[e5];rfl
 ·have e4:(t.kd == 0)=false:=b_ne c
  go_wp2_with fail;refine(rrfail_any R r 110 t.ps (by decide) w2 HU2.out).mono ?_;rintro e w3 ⟨rfl,hu,hf⟩;have hu2:=BADC.out (fun a s e=>by rw[←HT.out a s e];exact c) w3 hu;have HU3:=Hj hu2;have HNB3:=Hj (hf.blk HNB2.out HNB2.out.lt (Nat.ne_of_gt HRL.out));have HF3:=Hj (fx_trans HF2.out hf);clear hu hf hu2 HU2 HNB2 HF2 m2 t0 t1 TB
  go_wp2_with (refine st_tok noT w.heap.size _ HNB3.out rfl rfl _ _ rfl rfl rfl ?_)
  exact bodyPost_ret (rs_tok rfl _ _ w.heap.size noT rfl (HNB3.out.rowS _)) rfl ⟨_,rfl,HU3.out.fx (wr1_row w3 w.heap.size _).1 HU3.out.lt (fun k hk (q:k=w.heap.size)=>by have:=HRL.out;omega),fx_row HF3.out (.inr (Nat.le_refl _)) _⟩
theorem results_x3 {P:Program}{fn:Func}{p q r:Tmp}{ty:TypeId}(h:fn.results=#[.cell p ty,.tmp q,.tmp r])(tmps:Array Value)(w:World)(g:Nat)(t:TypeId)(cs:Array Value)(d:TypeDesc)(x y:Value)
  (hp:tmps.getD p undef=.pointer (some ⟨g,0,none⟩)) (hq:tmps.getD q undef=x) (hr:tmps.getD r undef=y) (hg:Blk w g t cs)
  (hu:P.underlying ty=some d) (hd:(match d with|.struct _|.array _ _=>true|_=>false)=true) (hi:(P.info? ty).map (·.size)=some cs.size) :
  (results fn tmps).run P w=.ok (.tuple #[.agg cs,x,y]) w:=by
 have hp':tmps[p]?.getD undef=.pointer (some ⟨g,0,none⟩):=by simpa using hp
 have hq':tmps[q]?.getD undef=x:=by simpa using hq
 have hr':tmps[r]?.getD undef=y:=by simpa using hr
 simp[results,h,hp',hq',hr',asAddr,run_loadVar_row w g t ty cs (0,0) d hg hu hd hi]
theorem u_new {w':World}{R T o c:Nat}{l:List Tk}(hR:Blk w' R 74 #[.slice (some ⟨T,o,none⟩) l.length c,.int .i64 0,.int .i64 0,.int .i64 0,.int .i64 0,.int .i64 0])(hT:T<R)(hr:w'.rangeAt T o (tksC l))(hc:l.length≤c)(hm:c≤maxLen)(hg:Good l):U R (.ok () ⟨l,0,0⟩) w':=
 ⟨T,o,c,l,0,0,0,0,0,⟨hT,hR,hr,hc,hm,hg,hg.pos⟩,rfl,rfl,rfl,rfl,rfl,Nat.zero_le _,Nat.zero_le _⟩
theorem U.no {α:Type}{R:Nat}{c p:Int}{w:World}(h:U R (.no c p:Rs α) w):w.cell? ⟨R,2,none⟩=some (.int .i64 c)∧w.cell? ⟨R,3,none⟩=some (.int .i64 p)∧c≠0:=by
 obtain⟨T,o,cp,l,i,e,a,n,x,H,g1,g2,g3⟩:=h;subst g1;subst g2;exact⟨H.blk.cell 2,H.blk.cell 3,g3⟩
theorem U.zero {α:Type}{R:Nat}{a:α}{s:PS}{w:World}(h:U R (.ok a s) w):w.cell? ⟨R,2,none⟩=some (.int .i64 0):=by
 obtain⟨T,o,cp,l,i,e,a,n,x,H,g1, -⟩:=h;subst g1;exact H.blk.cell 2
def PI (R:Nat)(w:World)(k:IntKind)(lo hi:Int)(Z:Rs Int)(e:Ending)(w':World):Prop:=∃v:Int,e=.returned (.int k v)∧lo≤v∧v≤hi∧(∀n s,Z=.ok n s→v=n)∧U R Z w'∧Fx (On R) w.heap.size w w'
theorem whl_eq (s:PS):whl s=intT (s.hd.tx == [45]) (acS s [45]):=by unfold whl;rw[minus_eq]
theorem U.took {α:Type}{R:Nat}{r:Rs α}{x:List UInt8}{w:World}(h:U R (r.bind fun _ s=>takT x s) w)(hb:∀a s,r=.ok a s→false=(s.hd.tx == x)):U R r w:=by
 refine h.of ?_
 cases r with
 | no c p=>rfl
 | ok a s=>
  have h1:=hb a s rfl;show Rs.ok () (acS s x)=Rs.ok () s;unfold acS;rw[if_neg (by rintro rfl;simp at h1)]
theorem int_of {α:Type}{R:Nat}{r:Rs α}{b:Bool}{t:Tk}{w:World}(hb:∀a s,r=.ok a s→b=(s.hd.tx == [45]))(ht:∀u s,((r.bind fun _ s=>takT [45] s).bind fun _ s=>kindT 2 s)=.ok u s→t=u)(hu:U R ((r.bind fun _ s=>takT [45] s).bind fun _ s=>kindT 2 s) w) :
  U R (r.bind fun _ s=>whl s) w∧∀n s,(r.bind fun _ s=>whl s)=.ok n s→(if b then -t.nn else t.nn)=n:=by
 cases r with
 | no c p=>exact⟨hu.of rfl,fun n s e=>by cases e⟩
 | ok a s=>
  have h1:=hb a s rfl;have e1:whl s=(kindT 2 (acS s [45])).bind fun t s'=>.ok (if b then -t.nn else t.nn) s':=by rw[whl_eq,←h1];rfl
  refine⟨hu.of ?_,fun n s' e=>?_⟩
  ·show(kindT 2 (acS s [45])).st=(whl s).st
   rw[e1]
   cases kindT 2 (acS s [45])<;>rfl
  ·change whl s=_ at e
   rw[e1]at e;obtain⟨u,s2,h2,h3⟩:=ok_inv e;have:=ht u s2 h2;subst this;cases h3;rfl
theorem rrsigned_any {α:Type}(R:Nat)(r:Rs α)(w:World)(h:U R r w):Calls Tryz.prog 116 #[.pointer (some ⟨R,0,none⟩)] w (PI R w .i32 (-2147483648) 2147483647 (r.bind fun _ s=>whl s)):=by
 have fn:=fun(t:Tk) w=>tkv_nn t w;have HU:=Hj h;clear h;go_enter Tryz.func116,Tryz.ntmps116;go_wp2_with fail;refine(rrtake_any R r [45] (by decide) w HU.out).mono ?_;rintro e w1 ⟨b,rfl,hb, -,hu,hf⟩;have HU1:=Hj hu;have HF1:=Hj hf;have HB:=Hj hb;clear hu hf hb HU;go_wp2_with fail;refine(rrkind_any R _ 2 (by decide) w1 HU1.out).mono ?_;rintro e w2 ⟨t,rfl,htd,ht,hu,hf⟩;have HTD:=Hj htd;have HF2:=Hj (fx_trans HF1.out hf);have E:=Hj (int_of HB.out ht hu);clear htd ht hu hf HU1 HF1 HB;have n0:=HTD.out.nn0;have n1:=HTD.out.nn1;have HN:=Hj (And.intro n0 n1);have ov:wrap32 (-t.nn) = -t.nn:=by unfold wrap32;omega
 cases b with
 | true=>
  go_wp2_with fail;refine bodyPost_ret (results_tmp rfl _ _ _) rfl ⟨-t.nn,(by simp[*]),(by have:=HN.out;omega),(by have:=HN.out;omega),E.out.2,E.out.1,HF2.out⟩
 | false=>
  go_wp2_with fail;refine bodyPost_ret (results_tmp rfl _ _ _) rfl ⟨t.nn,rfl,(by have:=HN.out;omega),(by have:=HN.out;omega),E.out.2,E.out.1,HF2.out⟩
theorem rrtyp_any {α:Type}(R:Nat)(r:Rs α)(w:World)(h:U R r w):Calls Tryz.prog 69 #[.pointer (some ⟨R,0,none⟩)] w (PI R w .u8 0 255 (r.bind fun _ s=>typN s)):=by
 have ft:=fun(t:Tk) w=>tkv_ps t w;have HU:=Hj h;clear h;go_enter Tryz.func69,Tryz.ntmps69;go_wp2_with fail;refine(rrtake_any R r [98,111,111,108] (by decide) w HU.out).mono ?_;rintro e w1 ⟨b,rfl,hb,hb2,hu,hf⟩;have HF1:=Hj hf;clear hf HU
 cases b with
 | true=>
  obtain⟨a,s,rfl⟩:=hb2 rfl;have h1:=(res_eq (hb a s rfl)).1 rfl;have e1:takT [98,111,111,108] s=.ok () s.tk:=congrArg (Rs.ok ()) (if_pos h1);change U R (takT [98,111,111,108] s) w1 at hu;rw[e1]at hu;have e2:typN s=.ok 1 s.tk:=if_pos h1;have HU1:=Hj hu;have E:=Hj e2;clear hu hb hb2 e1 e2 h1;go_wp2_with fail;refine bodyPost_ret (results_tmp rfl _ _ _) rfl ⟨1,rfl,by decide,by decide,fun n s' e=>?_,?_,HF1.out⟩
  ·change typN s=_ at e
   rw[E.out]at e;cases e;rfl
  ·show U R (typN s) w1
   rw[E.out];exact HU1.out.of rfl
 | false=>
  have HU1:=Hj (U.took hu hb);have HB1:=Hj hb;clear hu hb hb2;go_wp2_with fail;refine(rrtake_any R r [105,110,116] (by decide) w1 HU1.out).mono ?_;rintro e w2 ⟨b,rfl,hb,hb2,hu,hf⟩;have HF2:=Hj (fx_trans HF1.out hf);clear hf HU1 HF1
  cases b with
  | true=>
   obtain⟨a,s,rfl⟩:=hb2 rfl;have h1:=(res_eq (hb a s rfl)).1 rfl;have h0:=(res_eq (HB1.out a s rfl)).2 rfl;have e1:takT [105,110,116] s=.ok () s.tk:=congrArg (Rs.ok ()) (if_pos h1);change U R (takT [105,110,116] s) w2 at hu;rw[e1]at hu;have e2:typN s=.ok 2 s.tk:=by unfold typN;rw[if_neg h0,if_pos h1]
   have HU2:=Hj hu;have E:=Hj e2;clear hu hb hb2 e1 e2 h1 h0 HB1;go_wp2_with fail;refine bodyPost_ret (results_tmp rfl _ _ _) rfl ⟨2,rfl,by decide,by decide,fun n s' e=>?_,?_,HF2.out⟩
   ·change typN s=_ at e
    rw[E.out]at e;cases e;rfl
   ·show U R (typN s) w2
    rw[E.out];exact HU2.out.of rfl
  | false=>
   have HU2:=Hj (U.took hu hb);have HB2:=Hj hb;clear hu hb hb2;go_wp2_with fail;refine(rrtake_any R r [102,108,111,97,116] (by decide) w2 HU2.out).mono ?_;rintro e w3 ⟨b,rfl,hb,hb2,hu,hf⟩;have HF3:=Hj (fx_trans HF2.out hf);clear hf HU2 HF2
   cases b with
   | true=>
    obtain⟨a,s,rfl⟩:=hb2 rfl;have h1:=(res_eq (hb a s rfl)).1 rfl;have h0:=(res_eq (HB1.out a s rfl)).2 rfl;have h2:=(res_eq (HB2.out a s rfl)).2 rfl;have e1:takT [102,108,111,97,116] s=.ok () s.tk:=congrArg (Rs.ok ()) (if_pos h1);change U R (takT [102,108,111,97,116] s) w3 at hu;rw[e1]at hu;have e2:typN s=.ok 3 s.tk:=by unfold typN expT;rw[if_neg h0,if_neg h2,if_pos h1];rfl
    have HU3:=Hj hu;have E:=Hj e2;clear hu hb hb2 e1 e2 h1 h0 h2 HB1 HB2;go_wp2_with fail;refine bodyPost_ret (results_tmp rfl _ _ _) rfl ⟨3,rfl,by decide,by decide,fun n s' e=>?_,?_,HF3.out⟩
    ·change typN s=_ at e
     rw[E.out]at e;cases e;rfl
    ·show U R (typN s) w3
     rw[E.out];exact HU3.out.of rfl
   | false=>
    have HU3:=Hj (U.took hu hb);have HB3:=Hj hb;clear hu hb hb2;go_wp2_with fail;refine(rrtok_any R r w3 HU3.out).mono ?_;rintro e w4 ⟨t,rfl, -,ht,bl⟩;have HT:=Hj ht;have HU4:=Hj (HU3.out.below bl);have HF4:=Hj (fx_bel HF3.out bl);clear ht bl HU3 HF3;go_wp2_with fail;refine(rrfail_any R r 110 t.ps (by decide) w4 HU4.out).mono ?_;rintro e w5 ⟨rfl,hu,hf⟩;have HU5:=Hj hu;have HF5:=Hj (fx_trans HF4.out hf);clear hu hf HU4 HF4
    have E:Hid (∀a s,r=.ok a s→typN s=.no 110 t.ps):=fun a s hr=>by
     have h0:=(res_eq (HB1.out a s hr)).2 rfl;have h1:=(res_eq (HB2.out a s hr)).2 rfl;have h2:=(res_eq (HB3.out a s hr)).2 rfl;unfold typN expT bad;rw[if_neg h0,if_neg h1,if_neg h2,HT.out a s hr];rfl
    go_wp2_with fail;refine bodyPost_ret (results_tmp rfl _ _ _) rfl ⟨0,rfl,by decide,by decide,fun n s' e=>?_,?_,HF5.out⟩
    ·cases r with
     | no c p=>cases e
     | ok a s=>change typN s=_ at e;rw[E.out a s rfl]at e;cases e
    ·cases r with
     | no c p=>exact HU5.out.of rfl
     | ok a s=>show U R (typN s) w5;rw[E.out a s rfl];exact HU5.out.of rfl
theorem in_leaf {D:Nat→Prop}{w:World}{ps n:Int}(hp0:0≤ps)(hp1:ps≤16384)(h0:-2147483648≤n)(h1:n≤2147483647):XO D (inX ps n) w:=leaf_in (eh_ok (by decide) (by decide) hp0 hp1 h0 h1 (by decide) (by decide) (Nat.zero_le _) sl_no) rfl
theorem fl_leaf {D:Nat→Prop}{w:World}{ps f:Int}(hp0:0≤ps)(hp1:ps≤16384)(h0:0≤f)(h1:f<18446744073709551616):XO D (flX ps f) w:=leaf_in (eh_ok (by decide) (by decide) hp0 hp1 (by decide) (by decide) h0 h1 (Nat.zero_le _) sl_no) rfl
theorem numb_eq (s:PS):numb s=if(acS s [45]).hd.kd=3 then .ok (flX s.hd.ps (neF (s.hd.tx == [45]) (acS s [45]).hd.ff)) (acS s [45]).tk else(intT (s.hd.tx == [45]) (acS s [45])).bind fun n s'=>.ok (inX s.hd.ps n) s':=by unfold numb;rw[minus_eq]
theorem rrnumber_any {α:Type}(R:Nat)(r:Rs α)(w:World)(h:U R r w):Calls Tryz.prog 70 #[.pointer (some ⟨R,0,none⟩)] w (PX R w (r.bind fun _ s=>numb s)):=by
 have fn:=fun(t:Tk) w=>tkv_nn t w;have fp:=fun(t:Tk) w=>tkv_ps t w;have BL:=bel_one w zX;have HU:=Hj (h.below BL);have NB:Hid (Blk (w.alloc zX) w.heap.size 41 zeroH.va):=Blk.new _ _ _;have HRL:=Hj h.lt;have HF:Hid (Fx (On R) w.heap.size w (w.alloc zX)):=Fx.of BL;clear BL h;go_enter Tryz.func70,Tryz.ntmps70;go_upto_region 1 with fail;change Code.wp _ _ _ _ (w.alloc zX);generalize w.alloc zX=w0 at *;go_wp2_with fail;refine(rrtok_any R r w0 HU.out).mono ?_;rintro q w1 ⟨t0,rfl,htd,ht,hb⟩;have HT0:=Hj ht;have HD0:=Hj htd;have HU1:=Hj (HU.out.below hb);have NB1:=Hj (NB.out.below hb NB.out.lt);have HF1:=Hj (fx_bel HF.out hb);clear ht htd hb HU NB HF;go_wp2_with fail;refine(rrtake_any R r [45] (by decide) w1 HU1.out).mono ?_;rintro q w2 ⟨b,rfl,hb, -,hu,hf⟩;have HB:=Hj hb;have HU2:=Hj hu;have NB2:=Hj (hf.blk NB1.out NB1.out.lt (on_ne HRL.out));have HF2:=Hj (fx_trans HF1.out hf);clear hb hu hf HU1 NB1 HF1;go_wp2_with fail;refine(rrtok_any R _ w2 HU2.out).mono ?_;rintro q w3 ⟨t,rfl,htd,ht,hb⟩;have hb2:Below w2.heap.size w2 (w3.alloc (.cells t.vs 62)):=bel_alloc hb _;have HU3:=Hj (HU2.out.below hb2);have NB3:=Hj (NB2.out.below hb2 NB2.out.lt);have TB3:Hid (Blk (w3.alloc (.cells t.vs 62)) w3.heap.size 62 t.vs):=Blk.new _ _ _
 have HF3:=Hj (fx_bel HF2.out hb2);have HTN:Hid (w.heap.size<w3.heap.size):=Nat.lt_of_lt_of_le NB2.out.lt hb.size;have HT:=Hj ht;have HD:=Hj htd;clear hb hb2 ht htd HU2 NB2 HF2;unfold Tk.v;go_upto_region 4 with fail;change Code.wp _ _ _ _ (w3.alloc (.cells t.vs 62));generalize w3.alloc (.cells t.vs 62)=w4 at *;generalize w3.heap.size=tb at *;obtain⟨er,m2,he⟩:=HU3.out.err;have HE:=Hj he;have k0:w4.cell? ⟨tb,0,none⟩=some (.int .u8 t.kd):=TB3.out.cell 0;clear he
 by_cases c:t.kd=3∧er=0
 ·obtain⟨c3,rfl⟩:=c
  have e3:=b_eq c3
  obtain⟨a,s,rfl⟩:∃a s,r=.ok a s:=by
   cases r with
   | no c p=>have:=HE.out.1 rfl;cases this
   | ok a s=>exact⟨a,s,rfl⟩
  have hts:t=(acS s [45]).hd:=HT.out () _ rfl;have NX:=Hj (rrnext_any R _ w4 HU3.out (fun a' s' e=>by cases e;rw[←hts,c3];decide))
  have E:Hid (numb s=.ok (flX t0.ps (neF b t.ff)) (acS s [45]).tk):=by
   show _=_;rw[numb_eq,if_pos (by rw[←hts];exact c3),←hts,←HB.out a s rfl,HT0.out a s rfl]
  clear hts c3 HT;go_wp2_with fail;refine NX.out.mono ?_;rintro q w5 ⟨t',rfl, -, -,hu,hf⟩;have HU5:Hid (U R (numb s) w5):=by show U R (numb s) w5;rw[E.out];exact U.of hu rfl
  have NB5:=Hj (hf.blk NB3.out NB3.out.lt (on_ne HRL.out));have TB5:=hf.blk TB3.out TB3.out.lt (fun(x:tb=R)=>by have:=HTN.out;have:=HRL.out;omega);have HF5:=Hj (fx_trans HF3.out hf);have k4:w5.cell? ⟨tb,4,none⟩=some (.int .u64 t.ff):=TB5.cell 4;have hf0:=HD.out.ff0;have hf1:=HD.out.ff1;have HFF:=Hj (And.intro hf0 hf1);have or:=or63 hf0 hf1;clear hu hf NX HU3 NB3 HF3 TB3 TB5 k0 m2 hf0 hf1
  cases b with
  | true=>
   have nf:neF true t.ff=t.ff+9223372036854775808:=by unfold neF;rw[if_pos rfl,if_pos HFF.out.2]
   rw[nf]at E;clear nf
   go_wp2_with (refine st_ex ⟨3,t0.ps,false,0,t.ff+9223372036854775808,[],⟨none,0,0⟩⟩ w.heap.size _ NB5.out rfl rfl _ _ rfl rfl rfl ?_)
   exact bodyPost_ret (rs_ex rfl _ _ w.heap.size ⟨3,t0.ps,false,0,t.ff+9223372036854775808,[],⟨none,0,0⟩⟩ rfl (NB5.out.rowS _)) rfl (px_ret (e':=flX t0.ps (t.ff+9223372036854775808)) HRL.out (fl_leaf HD0.out.ps0 HD0.out.ps1 (by have:=HFF.out;omega) (by have:=HFF.out;omega)) (fun a' s' e=>by change numb s=_ at e;rw[E.out]at e;cases e;exact Ex.eqv_refl _) HU5.out HF5.out _)
  | false=>
   have nf:neF false t.ff=t.ff:=by unfold neF;rw[if_neg (by decide)]
   rw[nf]at E;clear nf or
   go_wp2_with (refine st_ex ⟨3,t0.ps,false,0,t.ff,[],⟨none,0,0⟩⟩ w.heap.size _ NB5.out rfl rfl _ _ rfl rfl rfl ?_)
   exact bodyPost_ret (rs_ex rfl _ _ w.heap.size ⟨3,t0.ps,false,0,t.ff,[],⟨none,0,0⟩⟩ rfl (NB5.out.rowS _)) rfl (px_ret (e':=flX t0.ps t.ff) HRL.out (fl_leaf HD0.out.ps0 HD0.out.ps1 (by have:=HFF.out;omega) (by have:=HFF.out;omega)) (fun a' s' e=>by change numb s=_ at e;rw[E.out]at e;cases e;exact Ex.eqv_refl _) HU5.out HF5.out _)
 ·have D:(t.kd == 3)=false∨((t.kd == 3)=true∧(er == 0)=false):=by
   by_cases c3:t.kd=3
   ·exact .inr ⟨b_eq c3,b_ne (fun e=>c ⟨c3,e⟩)⟩
   ·exact .inl (b_ne c3)
  have N3:Hid (∀a s,r=.ok a s→(acS s [45]).hd.kd≠3):=fun a s hr e=>by
   subst hr;have hts:t=(acS s [45]).hd:=HT.out () _ rfl;exact c ⟨by rw[hts];exact e,HE.out.2 rfl⟩
  have KD:=Hj (rrkind_any R _ 2 (by decide) w4 HU3.out);clear c HT HE HU3;rcases D with e3|⟨e3,e0⟩ <;>
  ·go_wp2_with fail
   refine KD.out.mono ?_;rintro q w5 ⟨t',rfl,htd,ht,hu,hf⟩;have HTD:=Hj htd;have E:=Hj (int_of HB.out ht hu);have NB5:=Hj (hf.blk NB3.out NB3.out.lt (on_ne HRL.out));have HF5:=Hj (fx_trans HF3.out hf);clear htd ht hu hf KD NB3 HF3 TB3 k0 m2 e3;have n0:=HTD.out.nn0;have n1:=HTD.out.nn1;have HN:=Hj (And.intro n0 n1);have ov:wrap32 (-t'.nn) = -t'.nn:=by unfold wrap32;omega
   have E2:Hid (U R (r.bind fun _ s=>numb s) w5∧∀a s,(r.bind fun _ s=>numb s)=.ok a s→inX t0.ps (if b then -t'.nn else t'.nn)=a):=by
    obtain⟨h1,h2⟩:=E.out
    cases r with
    | no c p=>exact⟨h1.of rfl,fun a s e=>by cases e⟩
    | ok a s=>
     have e1:numb s=(whl s).bind fun n s'=>.ok (inX t0.ps n) s':=by rw[numb_eq,if_neg (N3.out a s rfl),whl_eq,HT0.out a s rfl]
     refine⟨h1.of ?_,fun x s' e=>?_⟩
     ·show(whl s).st=(numb s).st
      rw[e1]
      cases whl s<;>rfl
     ·change numb s=_ at e
      rw[e1]at e;obtain⟨n,s2,h3,h4⟩:=ok_inv e;have:=h2 n s2 h3;subst this;cases h4;rfl
   clear E HB N3 HT0
   cases b with
   | true=>
    go_wp2_with (refine st_ex ⟨2,t0.ps,false, -t'.nn,0,[],⟨none,0,0⟩⟩ w.heap.size _ NB5.out rfl rfl _ _ rfl rfl rfl ?_)
    exact bodyPost_ret (rs_ex rfl _ _ w.heap.size ⟨2,t0.ps,false, -t'.nn,0,[],⟨none,0,0⟩⟩ rfl (NB5.out.rowS _)) rfl (px_ret (e':=inX t0.ps (-t'.nn)) HRL.out (in_leaf HD0.out.ps0 HD0.out.ps1 (by have:=HN.out;omega) (by have:=HN.out;omega)) (fun a s e=>by have:=E2.out.2 a s e;subst this;exact Ex.eqv_refl _) E2.out.1 HF5.out _)
   | false=>
    go_wp2_with (refine st_ex ⟨2,t0.ps,false,t'.nn,0,[],⟨none,0,0⟩⟩ w.heap.size _ NB5.out rfl rfl _ _ rfl rfl rfl ?_)
    exact bodyPost_ret (rs_ex rfl _ _ w.heap.size ⟨2,t0.ps,false,t'.nn,0,[],⟨none,0,0⟩⟩ rfl (NB5.out.rowS _)) rfl (px_ret (e':=inX t0.ps t'.nn) HRL.out (in_leaf HD0.out.ps0 HD0.out.ps1 (by have:=HN.out;omega) (by have:=HN.out;omega)) (fun a s e=>by have:=E2.out.2 a s e;subst this;exact Ex.eqv_refl _) E2.out.1 HF5.out _)
theorem known {α β:Type}{r:Rs α}{F:α→PS→Rs β}{v:α}(hv:∀a s,r=.ok a s→v=a):r.bind F=r.bind fun _ s=>F v s:=by
 cases r with
 | no c p=>rfl
 | ok a s=>rw[bind_ok,bind_ok,hv a s rfl]
theorem stepE {α β γ:Type}{r:Rs α}{p:PS→Rs β}{K:β→PS→Rs γ}{Z:Rs γ}{v:β}(E:Z=r.bind fun _ s=>(p s).bind K)(hv:∀a s,(r.bind fun _ s=>p s)=.ok a s→v=a):Z=(r.bind fun _ s=>p s).bind fun _ s=>K v s:=by
 rw[E,←bind_bind r (fun _ s=>p s) K];exact known hv
theorem stepU {α γ:Type}{r:Rs α}{p:PS→Rs Unit}{K:PS→Rs γ}{Z:Rs γ}(E:Z=r.bind fun _ s=>(p s).bind fun _=>K):Z=(r.bind fun _ s=>p s).bind fun _ s=>K s:=stepE (v:=()) E fun _ _ _=>rfl
theorem stepT {α γ:Type}{r:Rs α}{K K1:PS→Rs γ}{Z:Rs γ}{x:List UInt8}(E:Z=r.bind fun _ s=>K s)(hb:∀a s,r=.ok a s→true=(s.hd.tx == x))(h1:∀s,s.hd.tx=x→K s=K1 s.tk):Z=(r.bind fun _ s=>takT x s).bind fun _ s=>K1 s:=by
 rw[E]
 cases r with
 | no c p=>rfl
 | ok a s=>
  have h:=(res_eq (hb a s rfl)).1 rfl;show K s=K1 (acS s x);rw[h1 s h,show acS s x=s.tk from if_pos h]
theorem stepN {α γ:Type}{r:Rs α}{K K0:PS→Rs γ}{Z:Rs γ}{x:List UInt8}(E:Z=r.bind fun _ s=>K s)(hb:∀a s,r=.ok a s→false=(s.hd.tx == x))(h0:∀s,s.hd.tx≠x→K s=K0 s):Z=r.bind fun _ s=>K0 s:=by
 rw[E]
 cases r with
 | no c p=>rfl
 | ok a s=>exact h0 s ((res_eq (hb a s rfl)).2 rfl)
theorem U.fin {α γ:Type}{R:Nat}{r:Rs α}{d:γ}{Z:Rs γ}{w:World}(h:U R r w)(E:Z=r.bind fun _ s=>.ok d s):U R Z w∧∀x s,Z=.ok x s→d=x:=by
 subst E
 cases r with
 | no c p=>exact⟨h.of rfl,fun x s e=>by cases e⟩
 | ok a s=>exact⟨h.of rfl,fun x s' e=>by cases e;rfl⟩
theorem px_val {r:Rs Ex}{e':Ex}(he:∀a s,r=.ok a s→e'.eqv a):∃v,e'.eqv v∧∀a s,r=.ok a s→v=a:=by
 cases r with
 | no c p=>exact⟨e',Ex.eqv_refl _,fun a s e=>by cases e⟩
 | ok a s=>exact⟨a,he a s rfl,fun a s e=>by cases e;rfl⟩
theorem U.wr {α:Type}{R g:Nat}{r:Rs α}{w w':World}(h:U R r w)(W:Wr1 g w w')(hg:R<g):U R r w':=h.fx W.1 h.lt (fun k hk (q:k=g)=>by omega)
def PDe (R:Nat)(w:World)(Z:Rs De)(e:Ending)(w':World):Prop:=∃d':De,e=.returned d'.v∧XDe (Fro w.heap.size) d' w'∧(∀d s,Z=.ok d s→d'.eqv d)∧U R Z w'∧Fx (On R) w.heap.size w w'
structure DF (R:Nat) (w:World) (sb:Nat) (D:De) (a b:Ex) (w':World):Prop where
 rl:R<w.heap.size
 sl:w.heap.size<sb
 nb:Blk w' w.heap.size 56 (dcvs zeroD zeroH zeroH).toArray
 dk:Blk w' sb 56 (dcvs D a.h b.h).toArray
 xa:XO (fun k=>sb<k) a w'
 xb:XO (fun k=>sb<k) b w'
 hf:Fx (On R) w.heap.size w w'
theorem DF.rs {R sb:Nat}{w w1:World}{D:De}{a b:Ex}(h:DF R w sb D a b w1):R<sb:=Nat.lt_trans h.rl h.sl
theorem DF.fx {R sb:Nat}{w w1 w2:World}{D:De}{a b:Ex}(h:DF R w sb D a b w1)(hf:Fx (On R) w1.heap.size w1 w2):DF R w sb D a b w2:=
 ⟨h.rl,h.sl,hf.blk h.nb h.nb.lt (on_ne h.rl),hf.blk h.dk h.dk.lt (on_ne h.rs),h.xa.fx hf (on_not (fun(x:sb<R)=>by have:=h.rs;omega)),h.xb.fx hf (on_not (fun(x:sb<R)=>by have:=h.rs;omega)),fx_trans h.hf hf⟩
theorem DF.wr {R sb:Nat}{w w1 w2:World}{D D':De}{a b a' b':Ex}(h:DF R w sb D a b w1)(W:Wr1 sb w1 w2)(B:Blk w2 sb 56 (dcvs D' a'.h b'.h).toArray)(xa:XO (fun k=>sb<k) a' w1)(xb:XO (fun k=>sb<k) b' w1):DF R w sb D' a' b' w2:=
 ⟨h.rl,h.sl,W.blk h.nb (Nat.ne_of_lt h.sl),B,xa.fx W.1 (on_not (Nat.lt_irrefl _)),xb.fx W.1 (on_not (Nat.lt_irrefl _)),W.fx h.hf (Nat.le_of_lt h.sl)⟩
theorem DF.set {R sb:Nat}{w w1:World}{D D':De}{a b:Ex}(h:DF R w sb D a b w1)(j:Nat)(v:Value)(e:((dcvs D a.h b.h).toArray).setIfInBounds j v=(dcvs D' a.h b.h).toArray):DF R w sb D' a b (w1.setCell ⟨sb,j,none⟩ v):=
 h.wr (wr1_set w1 sb j v) (by rw[←e];exact h.dk.set_ j v) h.xa h.xb
theorem DF.ret {R sb:Nat}{w w1:World}{D d:De}{a b:Ex}{Z:Rs De}(h:DF R w sb D a b w1)(hd:(⟨D.ps,D.inp,D.nm,D.ty,D.len,D.rg,a,b⟩:De).ok)(hu:U R Z w1)(he:∀x s,Z=.ok x s→d=x)(e:(⟨D.ps,D.inp,D.nm,D.ty,D.len,D.rg,a,b⟩:De).eqv d)(cs:Array Value):PDe R w Z (.returned (dcv D a.h b.h)) (w1.setRow w.heap.size cs):=
 ⟨⟨D.ps,D.inp,D.nm,D.ty,D.len,D.rg,a,b⟩,rfl,⟨hd,((h.xa.fx (wr1_row w1 w.heap.size cs).1 (on_not (fun(x:sb<w.heap.size)=>by have:=h.sl;omega))).imp (fun k _ (x:sb<k)=>Nat.le_of_lt (Nat.lt_trans h.sl x))),((h.xb.fx (wr1_row w1 w.heap.size cs).1 (on_not (fun(x:sb<w.heap.size)=>by have:=h.sl;omega))).imp (fun k _ (x:sb<k)=>Nat.le_of_lt (Nat.lt_trans h.sl x)))⟩,fun x s q=>by rw[←he x s q];exact e,hu.wr (wr1_row w1 w.heap.size cs) h.rl,fx_row h.hf (.inr (Nat.le_refl _)) _⟩
theorem rrdecl_any (R:Nat)(s:PS)(w:World)(h:U R (.ok () s:Rs Unit) w)(hk:s.hd.kd≠0):Calls Tryz.prog 36 #[.pointer (some ⟨R,0,none⟩)] w (PDe R w (decl s)):=by
 have fn:=fun(t:Tk) w=>tkv_nn t w;have fp:=fun(t:Tk) w=>tkv_ps t w;have ft:=fun(t:Tk) w=>tkv_tx t w;have HU:=Hj (h.below (bel_one w zDe));have NB:Hid (Blk (w.alloc zDe) w.heap.size 56 (dcvs zeroD zeroH zeroH).toArray):=Blk.new _ _ _;have HRL:=Hj h.lt;have HF:Hid (Fx (On R) w.heap.size w (w.alloc zDe)):=Fx.of (bel_one w zDe);have HK:=Hj hk;have HS:Hid (Hd s.hd):=h.good.hd;generalize hZ:decl s=Z;have E0:Hid (Z=(Rs.ok () s.tk:Rs Unit).bind fun _ s1=>(kindT 1 s1).bind fun t s'=>(expT [58] s').bind fun _ s'=>(typN s').bind fun ty s'=>deT s.hd.ps (s.hd.tx == inpW) t.tx ty s'):=hZ.symm;clear h hk hZ;go_enter Tryz.func36,Tryz.ntmps36;go_upto_region 1 with fail;change Code.wp _ _ _ _ (w.alloc zDe);generalize w.alloc zDe=w0 at *;go_wp2_with fail;refine(rrtok_any R _ w0 HU.out).mono ?_;rintro q w1 ⟨t0,rfl, -,ht,hb⟩;obtain rfl:=ht () s rfl;have HU1:=Hj (HU.out.below hb);have NB1:=Hj (NB.out.below hb NB.out.lt);have HF1:=Hj (fx_bel HF.out hb);clear ht hb HU NB HF;go_wp2_with fail;refine(rris_any R _ [105,110,112,117,116] (by decide) w1 HU1.out).mono ?_;rintro q w2 ⟨b,rfl,hi,hb⟩;obtain rfl:b=(s.hd.tx == inpW):=hi () s rfl;have HU2:=Hj (HU1.out.below hb);have NB2:=Hj (NB1.out.below hb NB1.out.lt)
 have HF2:=Hj (fx_bel HF1.out hb);clear hi hb HU1 NB1 HF1;generalize (s.hd.tx == inpW)=i at *
 go_upto_region 2 with(first
  | (refine al_de rfl rfl ?_;intro sb wy HG SBa BLa)
  | (refine st_deW ⟨s.hd.ps,i,[],0,0,false,.no,.no⟩ zeroH zeroH sb SBa.out rfl _ _ rfl rfl rfl rfl ?_;intro w3 SB WR))
 have D3:Hid (DF R w sb ⟨s.hd.ps,i,[],0,0,false,.no,.no⟩ .no .no w3):=⟨HRL.out,by rw[HG.out];exact NB2.out.lt,WR.out.blk (NB2.out.below BLa.out NB2.out.lt) (by rw[HG.out];exact Nat.ne_of_lt NB2.out.lt),SB.out,trivial,trivial,WR.out.fx (fx_bel HF2.out BLa.out) (by rw[HG.out];exact Nat.le_of_lt NB2.out.lt)⟩;have HU3:=Hj ((HU2.out.below BLa.out).wr WR.out D3.out.rs);clear HG SB BLa WR HU2 NB2 HF2 HRL;go_wp2_with fail;refine(rrnext_any R _ w3 HU3.out (fun a' s' e=>by cases e;exact HK.out)).mono ?_;rintro q w4 ⟨t',rfl, -, -,hu,hf⟩;have HU4:=Hj hu;have D4:=Hj (D3.out.fx hf);clear hu hf HU3 D3 HK;have E4:=E0;clear E0;go_wp2_with fail;refine(rrkind_any R _ 1 (by decide) w4 HU4.out).mono ?_;rintro q w5 ⟨t,rfl,htd,ht,hu,hf⟩;have HU5:=Hj hu;have D5:=Hj (D4.out.fx hf);have E5:=Hj (stepE E4.out ht);have HTD:=Hj htd;clear hu hf HU4 D4 E4 htd ht;have mm:w5.cell? ⟨sb,2,none⟩=some (.string ⟨#[]⟩):=D5.out.dk.cell 2;have zz:w5.frozen? ⟨sb,2,none⟩=false:=D5.out.dk.frozen 2;have HU6:=Hj (HU5.out.wr (wr1_set w5 sb 2 (.string ⟨t.tx.toArray⟩)) D5.out.rs);have D6:=Hj (D5.out.set (D':=⟨s.hd.ps,i,t.tx,0,0,false,.no,.no⟩) 2 (.string ⟨t.tx.toArray⟩) rfl);go_upto_region 4 with fail
 change Code.wp _ _ _ _ (w5.setCell ⟨sb,2,none⟩ (.string ⟨t.tx.toArray⟩));clear mm zz HU5 D5;generalize w5.setCell ⟨sb,2,none⟩ (.string ⟨t.tx.toArray⟩)=w6 at *;have E6:=E5;clear E5;go_wp2_with fail;refine(rrmust_any R _ [58] (by decide) w6 HU6.out).mono ?_;rintro q w7 ⟨rfl,hu,hf⟩;have HU7:=Hj hu;have D7:=Hj (D6.out.fx hf);have E7:=Hj (stepU E6.out);clear hu hf HU6 D6 E6;go_wp2_with fail;refine(rrtyp_any R _ w7 HU7.out).mono ?_;rintro q w8 ⟨ty,rfl,h0,h1,hv,hu,hf⟩;have HU8:=Hj hu;have D8:=Hj (D7.out.fx hf);have E8:=Hj (stepE E7.out hv);have HTY:=Hj (And.intro h0 h1);clear hu hf HU7 D7 E7 h0 h1 hv;have mm:w8.cell? ⟨sb,3,none⟩=some (.int .u8 0):=D8.out.dk.cell 3;have zz:w8.frozen? ⟨sb,3,none⟩=false:=D8.out.dk.frozen 3;have HU9:=Hj (HU8.out.wr (wr1_set w8 sb 3 (.int .u8 ty)) D8.out.rs);have D9:=Hj (D8.out.set (D':=⟨s.hd.ps,i,t.tx,ty,0,false,.no,.no⟩) 3 (.int .u8 ty) rfl);go_upto_region 6 with fail;change Code.wp _ _ _ _ (w8.setCell ⟨sb,3,none⟩ (.int .u8 ty));clear mm zz HU8 D8;generalize w8.setCell ⟨sb,3,none⟩ (.int .u8 ty)=w9 at *;have E9:=E8;clear E8;have i1:w9.cell? ⟨sb,1,none⟩=some (.bool i):=D9.out.dk.cell 1
 cases i with
 | true=>
  go_wp2_with fail;refine(rrtake_any R _ [105,110] (by decide) w9 HU9.out).mono ?_;rintro q w10 ⟨b,rfl,hb, -,hu,hf⟩;have HU10:=Hj hu;have D10:=Hj (D9.out.fx hf);have HB:=Hj hb;clear hu hf HU9 D9 hb i1;have mm:w10.cell? ⟨sb,5,none⟩=some (.bool false):=D10.out.dk.cell 5;have zz:w10.frozen? ⟨sb,5,none⟩=false:=D10.out.dk.frozen 5;have HU11:=Hj (HU10.out.wr (wr1_set w10 sb 5 (.bool b)) D10.out.rs);have D11:=Hj (D10.out.set (D':=⟨s.hd.ps,true,t.tx,ty,0,b,.no,.no⟩) 5 (.bool b) rfl);go_upto_region 8 with fail;change Code.wp _ _ _ _ (w10.setCell ⟨sb,5,none⟩ (.bool b));clear mm zz HU10 D10;generalize w10.setCell ⟨sb,5,none⟩ (.bool b)=w11 at *;have i5:w11.cell? ⟨sb,5,none⟩=some (.bool b):=D11.out.dk.cell 5
  cases b with
  | true=>
   have E11:=Hj (stepT E9.out HB.out (K1:=fun s1=>(expT [91] s1).bind fun _ s1=>(numb s1).bind fun a s1=>(expT [44] s1).bind fun _ s1=>(numb s1).bind fun b s1=>(expT [93] s1).bind fun _ s1=>(expT [59] s1).bind fun _ s1=>.ok ⟨s.hd.ps,true,t.tx,ty,0,true,a,b⟩ s1) fun s1 h1=>by unfold deT;exact if_pos ⟨rfl,h1⟩);clear E9 HB;go_wp2_with fail;refine(rrmust_any R _ [91] (by decide) w11 HU11.out).mono ?_;rintro q w12 ⟨rfl,hu,hf⟩;have HU12:=Hj hu;have D12:=Hj (D11.out.fx hf);have E12:=Hj (stepU E11.out);clear hu hf HU11 D11 E11;clear i5;go_wp2_with fail;refine(rrnumber_any R _ w12 HU12.out).mono ?_;rintro q w13 ⟨ea,rfl,xe,he,hu,hf⟩;obtain⟨vea,eqvea,hv⟩:=px_val he;have HEea:=Hj eqvea;have HU13:=Hj hu;have Xea:=Hj (xe.imp (D':=fun k=>sb<k) (fun k _ (x:w12.heap.size≤k)=>Nat.lt_of_lt_of_le D12.out.dk.lt x));have D13:=Hj (D12.out.fx hf);have DK:=Hj D13.out.dk;have E13:=Hj (stepE E12.out hv);clear hu hf HU12 D12 E12 xe he hv eqvea
   go_upto_region 11 with(refine st_mid 56 sb 6 (dcvs ⟨s.hd.ps,true,t.tx,ty,0,true,.no,.no⟩ zeroH zeroH) (dcvs ⟨s.hd.ps,true,t.tx,ty,0,true,.no,.no⟩ ea.h zeroH) ea.h DK.out rfl (by simp[dcvs]) rfl _ _ rfl rfl rfl ?_;intro w14 DW WR)
   have HU14:=Hj (HU13.out.wr WR.out D13.out.rs);have D14:=Hj (D13.out.wr (a':=ea) (b':=.no) WR.out DW.out Xea.out trivial);have E14:=E13;clear HU13 D13 E13 DW WR Xea DK;go_wp2_with fail;refine(rrmust_any R _ [44] (by decide) w14 HU14.out).mono ?_;rintro q w15 ⟨rfl,hu,hf⟩;have HU15:=Hj hu;have D15:=Hj (D14.out.fx hf);have E15:=Hj (stepU E14.out);clear hu hf HU14 D14 E14;go_wp2_with fail;refine(rrnumber_any R _ w15 HU15.out).mono ?_;rintro q w16 ⟨eb,rfl,xe,he,hu,hf⟩;obtain⟨veb,eqveb,hv⟩:=px_val he;have HEeb:=Hj eqveb;have HU16:=Hj hu;have Xeb:=Hj (xe.imp (D':=fun k=>sb<k) (fun k _ (x:w15.heap.size≤k)=>Nat.lt_of_lt_of_le D15.out.dk.lt x));have D16:=Hj (D15.out.fx hf);have DK:=Hj D16.out.dk;have E16:=Hj (stepE E15.out hv);clear hu hf HU15 D15 E15 xe he hv eqveb
   go_upto_region 13 with(refine st_mid 56 sb 13 (dcvs ⟨s.hd.ps,true,t.tx,ty,0,true,.no,.no⟩ ea.h zeroH) (dcvs ⟨s.hd.ps,true,t.tx,ty,0,true,.no,.no⟩ ea.h eb.h) eb.h DK.out rfl (by simp[dcvs]) rfl _ _ rfl rfl rfl ?_;intro w17 DW WR)
   have HU17:=Hj (HU16.out.wr WR.out D16.out.rs);have D17:=Hj (D16.out.wr (a':=ea) (b':=eb) WR.out DW.out D16.out.xa Xeb.out);have E17:=E16;clear HU16 D16 E16 DW WR Xeb DK;go_wp2_with fail;refine(rrmust_any R _ [93] (by decide) w17 HU17.out).mono ?_;rintro q w18 ⟨rfl,hu,hf⟩;have HU18:=Hj hu;have D18:=Hj (D17.out.fx hf);have E18:=Hj (stepU E17.out);clear hu hf HU17 D17 E17;go_wp2_with fail;refine(rrmust_any R _ [59] (by decide) w18 HU18.out).mono ?_;rintro q w19 ⟨rfl,hu,hf⟩;have HU19:=Hj hu;have D19:=Hj (D18.out.fx hf);have E19:=Hj (stepU E18.out);clear hu hf HU18 D18 E18;have FI:=Hj (HU19.out.fin E19.out);have DK:=Hj D19.out.dk;have NB:=Hj D19.out.nb;clear HU19 E19
   go_wp2_with (first
    | refine ld_de ⟨s.hd.ps,true,t.tx,ty,0,true,.no,.no⟩ ea.h eb.h sb DK.out rfl _ rfl rfl ?_
    | refine st_de ⟨s.hd.ps,true,t.tx,ty,0,true,.no,.no⟩ ea.h eb.h w.heap.size _ NB.out rfl rfl _ _ rfl rfl rfl ?_)
   refine bodyPost_ret (rs_de rfl _ _ w.heap.size ⟨s.hd.ps,true,t.tx,ty,0,true,.no,.no⟩ ea.h eb.h rfl (NB.out.rowS _)) rfl ?_;exact D19.out.ret (de_ok HS.out.ps0 HS.out.ps1 HTY.out.1 HTY.out.2 (Int.le_refl 0) (by show(0:Int)≤2147483647;decide) HTD.out.len) FI.out.1 FI.out.2 ⟨⟨rfl,rfl,rfl,rfl,rfl,rfl⟩,HEea.out,HEeb.out⟩ _
  | false=>
   have E11:=Hj (stepN E9.out HB.out (K0:=fun s1=>(expT [59] s1).bind fun _ s1=>.ok ⟨s.hd.ps,true,t.tx,ty,0,false,.no,.no⟩ s1) fun s1 h1=>by unfold deT;rw[if_neg (fun x=>h1 x.2),if_neg (fun x=>by cases x.1)]);have HU12:=Hj (U.took HU11.out HB.out);have D12:=D11;have E12:=E11;clear E9 HB HU11 D11 E11;generalize w11=w12 at *;go_wp2_with fail;refine(rrmust_any R _ [59] (by decide) w12 HU12.out).mono ?_;rintro q w13 ⟨rfl,hu,hf⟩;have HU13:=Hj hu;have D13:=Hj (D12.out.fx hf);have E13:=Hj (stepU E12.out);clear hu hf HU12 D12 E12;have FI:=Hj (HU13.out.fin E13.out);have DK:=Hj D13.out.dk;have NB:=Hj D13.out.nb;clear HU13 E13
   go_wp2_with (first
    | refine ld_de ⟨s.hd.ps,true,t.tx,ty,0,false,.no,.no⟩ Ex.no.h Ex.no.h sb DK.out rfl _ rfl rfl ?_
    | refine st_de ⟨s.hd.ps,true,t.tx,ty,0,false,.no,.no⟩ Ex.no.h Ex.no.h w.heap.size _ NB.out rfl rfl _ _ rfl rfl rfl ?_)
   refine bodyPost_ret (rs_de rfl _ _ w.heap.size ⟨s.hd.ps,true,t.tx,ty,0,false,.no,.no⟩ Ex.no.h Ex.no.h rfl (NB.out.rowS _)) rfl ?_;exact D13.out.ret (de_ok HS.out.ps0 HS.out.ps1 HTY.out.1 HTY.out.2 (Int.le_refl 0) (by show(0:Int)≤2147483647;decide) HTD.out.len) FI.out.1 FI.out.2 ⟨⟨rfl,rfl,rfl,rfl,rfl,rfl⟩,(Ex.eqv_refl _),(Ex.eqv_refl _)⟩ _
 | false=>
  go_wp2_with fail;refine(rrtake_any R _ [91] (by decide) w9 HU9.out).mono ?_;rintro q w10 ⟨b,rfl,hb, -,hu,hf⟩;have HU10:=Hj hu;have D10:=Hj (D9.out.fx hf);have HB:=Hj hb;clear hu hf HU9 D9 hb i1
  cases b with
  | true=>
   have E10:=Hj (stepT E9.out HB.out (K1:=fun s1=>(kindT 2 s1).bind fun t2 s1=>(expT [93] s1).bind fun _ s1=>(expT [59] s1).bind fun _ s1=>.ok ⟨s.hd.ps,false,t.tx,ty,t2.nn,false,.no,.no⟩ s1) fun s1 h1=>by unfold deT;rw[if_neg (fun x=>by cases x.1),if_pos ⟨rfl,h1⟩]);clear E9 HB;go_wp2_with fail;refine(rrkind_any R _ 2 (by decide) w10 HU10.out).mono ?_;rintro q w11 ⟨t2,rfl,htd,ht,hu,hf⟩;have HU11:=Hj hu;have D11:=Hj (D10.out.fx hf);have E11:=Hj (stepE E10.out ht);have HTN:=Hj htd;clear hu hf HU10 D10 E10 htd ht;have ov:IntKind.i64.wrap t2.nn=t2.nn:=by have:=HTN.out.nn0;have:=HTN.out.nn1;rw[IntKind.wrap_i64];omega
   have mm:w11.cell? ⟨sb,4,none⟩=some (.int .i64 0):=D11.out.dk.cell 4;have zz:w11.frozen? ⟨sb,4,none⟩=false:=D11.out.dk.frozen 4;have HU12:=Hj (HU11.out.wr (wr1_set w11 sb 4 (.int .i64 t2.nn)) D11.out.rs);have D12:=Hj (D11.out.set (D':=⟨s.hd.ps,false,t.tx,ty,t2.nn,false,.no,.no⟩) 4 (.int .i64 t2.nn) rfl);go_upto_region 16 with fail;change Code.wp _ _ _ _ (w11.setCell ⟨sb,4,none⟩ (.int .i64 t2.nn));clear mm zz HU11 D11;generalize w11.setCell ⟨sb,4,none⟩ (.int .i64 t2.nn)=w12 at *;have E12:=E11;clear E11 ov;go_wp2_with fail;refine(rrmust_any R _ [93] (by decide) w12 HU12.out).mono ?_;rintro q w13 ⟨rfl,hu,hf⟩;have HU13:=Hj hu;have D13:=Hj (D12.out.fx hf);have E13:=Hj (stepU E12.out);clear hu hf HU12 D12 E12;go_wp2_with fail;refine(rrmust_any R _ [59] (by decide) w13 HU13.out).mono ?_;rintro q w14 ⟨rfl,hu,hf⟩;have HU14:=Hj hu;have D14:=Hj (D13.out.fx hf);have E14:=Hj (stepU E13.out);clear hu hf HU13 D13 E13;have FI:=Hj (HU14.out.fin E14.out);have DK:=Hj D14.out.dk;have NB:=Hj D14.out.nb;clear HU14 E14
   go_wp2_with (first
    | refine ld_de ⟨s.hd.ps,false,t.tx,ty,t2.nn,false,.no,.no⟩ Ex.no.h Ex.no.h sb DK.out rfl _ rfl rfl ?_
    | refine st_de ⟨s.hd.ps,false,t.tx,ty,t2.nn,false,.no,.no⟩ Ex.no.h Ex.no.h w.heap.size _ NB.out rfl rfl _ _ rfl rfl rfl ?_)
   refine bodyPost_ret (rs_de rfl _ _ w.heap.size ⟨s.hd.ps,false,t.tx,ty,t2.nn,false,.no,.no⟩ Ex.no.h Ex.no.h rfl (NB.out.rowS _)) rfl ?_;exact D14.out.ret (de_ok HS.out.ps0 HS.out.ps1 HTY.out.1 HTY.out.2 HTN.out.nn0 HTN.out.nn1 HTD.out.len) FI.out.1 FI.out.2 ⟨⟨rfl,rfl,rfl,rfl,rfl,rfl⟩,(Ex.eqv_refl _),(Ex.eqv_refl _)⟩ _
  | false=>
   have E11:=Hj (stepN E9.out HB.out (K0:=fun s1=>(expT [59] s1).bind fun _ s1=>.ok ⟨s.hd.ps,false,t.tx,ty,0,false,.no,.no⟩ s1) fun s1 h1=>by unfold deT;rw[if_neg (fun x=>by cases x.1),if_neg (fun x=>h1 x.2)]);have HU11:=Hj (U.took HU10.out HB.out);have D11:=D10;clear E9 HB HU10 D10;generalize w10=w11 at *;go_wp2_with fail;refine(rrmust_any R _ [59] (by decide) w11 HU11.out).mono ?_;rintro q w12 ⟨rfl,hu,hf⟩;have HU12:=Hj hu;have D12:=Hj (D11.out.fx hf);have E12:=Hj (stepU E11.out);clear hu hf HU11 D11 E11;have FI:=Hj (HU12.out.fin E12.out);have DK:=Hj D12.out.dk;have NB:=Hj D12.out.nb;clear HU12 E12
   go_wp2_with (first
    | refine ld_de ⟨s.hd.ps,false,t.tx,ty,0,false,.no,.no⟩ Ex.no.h Ex.no.h sb DK.out rfl _ rfl rfl ?_
    | refine st_de ⟨s.hd.ps,false,t.tx,ty,0,false,.no,.no⟩ Ex.no.h Ex.no.h w.heap.size _ NB.out rfl rfl _ _ rfl rfl rfl ?_)
   refine bodyPost_ret (rs_de rfl _ _ w.heap.size ⟨s.hd.ps,false,t.tx,ty,0,false,.no,.no⟩ Ex.no.h Ex.no.h rfl (NB.out.rowS _)) rfl ?_;exact D12.out.ret (de_ok HS.out.ps0 HS.out.ps1 HTY.out.1 HTY.out.2 (Int.le_refl 0) (by show(0:Int)≤2147483647;decide) HTD.out.len) FI.out.1 FI.out.2 ⟨⟨rfl,rfl,rfl,rfl,rfl,rfl⟩,(Ex.eqv_refl _),(Ex.eqv_refl _)⟩ _
def PSt (R:Nat)(w:World)(Z:Rs St)(e:Ending)(w':World):Prop:=∃b:St,e=.returned (stv b.h b.e.h)∧XS (Fro w.heap.size) b w'∧(∀a s,Z=.ok a s→b.eqv a)∧U R Z w'∧Fx (On R) w.heap.size w w'
def PB (R:Nat)(w:World)(Z:Rs (List St))(e:Ending)(w':World):Prop:=∃S K,e=.returned (Sl.val S)∧XB (Fro w.heap.size) S K w'∧(∀l s,Z=.ok l s→Seq S K l)∧U R Z w'∧Fx (On R) w.heap.size w w'
def RS (R k:Nat):Prop:=∀(s:PS) (w:World) (d:Int),d+k=24→U R (.ok () s:Rs Unit) w→Calls Tryz.prog 72 #[.pointer (some ⟨R,0,none⟩),.int .i64 d] w (PSt R w (stK k s))
def RB (R k:Nat):Prop:=∀(α:Type) (r:Rs α) (w:World) (d:Int),d+k=24→U R r w→Calls Tryz.prog 37 #[.pointer (some ⟨R,0,none⟩),.int .i64 d] w (PB R w (r.bind fun _ s=>blk (sK k) s))
theorem own_xs {w:World}{L n:Nat}{v:Value}{K:Nat→St}(h:w.ownsRow L 53 15 v n (rowC K n))(hK:∀i,i<n→XS (Dr L v) (K i) w):∃S:Sl,v=S.val∧S.n=n∧XB (Fro L) S K w:=by
 have hk:∀i,i<n→XS (Fro L) (K i) w:=fun i hi=>(hK i hi).imp (fun k _ x=>x.1);rcases h.2 with⟨rfl,rfl⟩|⟨g,cap,cur,rfl,hb,hg,hn,hc,hcs,ht⟩
 ·exact⟨⟨none,0,0⟩,rfl,rfl,xb_no⟩
 ·refine⟨⟨some ⟨g,0,none⟩,n,cap⟩,rfl,rfl,⟨hn,hc,fun e=>by cases e⟩,?_,hk⟩
  intro a ha i hi;cases ha;have hi:i<n:=hi;refine⟨(Array.getElem?_eq_some_iff.1 hg).1,fun j u hu=>?_⟩;rw[up_cell];refine⟨?_,h.cells (g:=g) rfl _ _ (rowC_at hi hu)⟩;rw[add_block];exact hb
theorem app_xsr {w w':World}{L:Nat}{v v':Value}{d:St}(gr:w.grownBy w' v.ownBlock)(mv:RowAt w v v')(h:XS (Dr L v) d w):XS (Dr L v') d w':=by
 have h2:XS (fun k=>Dr L v k∧v'.ownBlock≠some k) d w:=h.imp fun k hk x=>⟨x,fun e=>by
  rcases mv k e with h|h
  ·exact x.2 h
  ·omega⟩
 exact(h2.fx (gr_fx gr) (fun k hk x=>x.1.2 hk)).imp fun k _ x=>⟨x.1.1,x.2⟩
theorem moreC_row {w:World}{B n:Nat}{K:Nat→St}{b:St}{v:Value}(h:w.ownsRow B 53 15 v (n+1) (rowC K n++stvs b.h b.e.h)):w.ownsRow B 53 15 v (n+1) (rowC (fun i=>if i<n then K i else b) (n+1)):=by
 have e:rowC (fun i=>if i<n then K i else b) (n+1)=rowC K n++stvs b.h b.e.h:=by
  rw[rowC,rowC_congr (J:=K) (fun i hi=>by rw[if_pos hi]),if_neg (Nat.lt_irrefl n)]
 rw[e];exact h
theorem stm_slice (h:SH)(e:EH):Tryz.prog.builtSlice 53 1 [(0,stv h e)]=some (stvs h e).toArray:=by kernel_rfl
theorem bs_st {ops:Array Oper}{rest:List Oper}{o:Oper}{a:Act}{w:World}{Q:Exit→Act→World→Prop}(h:SH)(e:EH)(hgd:o.guard=none)(x:Operand)(ho:o.op=.buildSlice 28 1 #[(0,x)])(hx:a.eval x=stv h e)
  (hw:∀g w',Hid (g=w.heap.size)→Hid (Blk w' g 53 (stvs h e).toArray)→Hid (Below w.heap.size w w')→wpList Tryz.prog ops Q rest (a.put o.dst (.slice (some ⟨g,0,none⟩) 1 1)) w'):wpList Tryz.prog ops Q (o::rest) a w:=by
 refine Great.wpList_buildSliceTo hgd 28 53 1 #[(0,x)] ho w.heap.size rfl o.dst rfl Tryz.underlying28 (stvs h e).toArray ?_ (hw _ _ rfl (Blk.new w _ _) (bel_one w _));have e1:((#[(0,x)]:Array (Nat×Operand)).map fun(i,x)=>(i,a.eval x)).toList=[(0,stv h e)]:=by simp[hx]
 rw[e1];exact stm_slice h e
theorem new_stm {w:World}{g:Nat}{h:SH}{e:EH}(hb:Blk w g 53 (stvs h e).toArray)(j:Nat)(u:Value)(hu:(stvs h e)[j]? = some u):w.cell? ((⟨g,0,none⟩:Addr).add j)=some u:=by
 rw[Addr.add_mid,Nat.zero_add];exact(hb.cell j).trans (by rw[List.getElem?_toArray];exact hu)
structure RF (R:Nat) (w:World) (v:Value) (n:Nat) (K:Nat→St) (w':World):Prop where
 rl:R<w.heap.size
 own:w'.ownsRow w.heap.size 53 15 v n (rowC K n)
 xs:∀i,i<n→XS (Dr w.heap.size v) (K i) w'
 hf:Fx (On R) w.heap.size w w'
theorem RF.fx {R n:Nat}{w w1 w2:World}{v:Value}{K:Nat→St}(h:RF R w v n K w1)(hf:Fx (On R) w1.heap.size w1 w2):RF R w v n K w2:=
 ⟨h.rl,own_fx h.own hf (fun k hk (x:k=R)=>by have:=h.rl;omega),fun i hi=>(h.xs i hi).fx hf (on_not (fun x=>by have:=x.1;have:=h.rl;omega)),fx_trans h.hf hf⟩
theorem RF.bel {R n:Nat}{w w1 w2:World}{v:Value}{K:Nat→St}(h:RF R w v n K w1)(hb:Below w1.heap.size w1 w2):RF R w v n K w2:=h.fx (Fx.of hb)
theorem RF.add {R n g:Nat}{w w1 w2 w3:World}{v v':Value}{K:Nat→St}{b:St}(h:RF R w v n K w1)(hx:XS (Fro g) b w2)(hg:w1.heap.size≤g)(h2:RF R w v n K w2)(own:w3.ownsRow w.heap.size 53 15 v' (n+1) (rowC K n++stvs b.h b.e.h))(gr:w2.grownBy w3 v.ownBlock)(mv:RowAt w2 v v'):RF R w v' (n+1) (fun i=>if i<n then K i else b) w3:=
 ⟨h.rl,moreC_row own,more_xs (fun i hi=>app_xsr gr mv (h2.xs i hi)) (app_xsr gr mv (hx.imp (fun k _ (x:g≤k)=>⟨Nat.le_trans h.hf.size (Nat.le_trans hg x),fun e=>Nat.lt_irrefl _ (Nat.lt_of_lt_of_le (own_block h.own e).2 (Nat.le_trans hg x))⟩))),app_fx gr h2.own h2.hf⟩
theorem RF.ret {R n:Nat}{w w1:World}{v:Value}{K:Nat→St}{Z:Rs (List St)}(h:RF R w v n K w1)(hu:U R Z w1)(he:∀l s,Z=.ok l s→n=l.length∧∀i,i<n→(K i).eqv (l.getD i .no)):PB R w Z (.returned v) w1:=by
 obtain⟨S,rfl,rfl,hx⟩:=own_xs h.own h.xs;exact⟨S,K,rfl,hx,fun l s e=>he l s e,hu,h.hf⟩
def QS {α:Type}(r:Rs α)(l:List St)(n:Nat)(K:Nat→St)(f:Nat):Prop:=∀a s,r=.ok a s→n=l.length∧n≤s.ns∧s.ts.length<f∧∀i,i<n→(K i).eqv (l.getD i .no)
theorem st_bind {α β:Type}(r:Rs α)(F:PS→Rs β):(r.st.bind fun _ s=>F s)=r.bind fun _ s=>F s:=by cases r<;>rfl
theorem U.ns {α:Type}{R:Nat}{a:α}{s:PS}{w:World}(h:U R (.ok a s) w):s.ns≤200:=by
 obtain⟨T,o,c,l,i,e,a,n,x,H,g1,g2,g3,g4,g5,g6,g7⟩:=h;exact g6
theorem va_ok {α:Type}{r:Rs α}(d:α):∀a s,r=.ok a s→r.va d=a:=fun a s e=>by subst e;rfl
end Go.Proofs.YthmlhkllbichgaaGreatDoor
