/-
  ParseBack holds, tied to the program's text. (part 32 of 41) Conditions: none beside what the card ties.
-/
import Derived.Test.YthmlhkllbichgaaGreatDoorWbe
import Derived.Recover
import Derived.Test.YthmlhkllbichgaaGreatDoorWbd
namespace Go.Proofs.YthmlhkllbichgaaGreatDoor
set_option maxHeartbeats 16000000
open Go.RowKit
set_option maxRecDepth 100000
def Rk {α:Type}(R:α→Prop)(cs ce:Nat)(rest:List Tk)(s:PS)(r:Rs α):Prop:=(∃q,r=.no 111 q)∨∃a s',r=.ok a s'∧R a∧s'.ts.map Tk.er=rest∧s'.ns=s.ns+cs∧s'.nx=s.nx+ce
theorem Rk.bind {α β:Type}{R:α→Prop}{Q:β→Prop}{cs ce ds de:Nat}{mid rest:List Tk}{s:PS}{r:Rs α}{f:α→PS→Rs β}(h:Rk R cs ce mid s r)(g:∀a s1,R a→s1.ts.map Tk.er=mid→s1.ns=s.ns+cs→s1.nx=s.nx+ce→Rk Q ds de rest s1 (f a s1)):Rk Q (cs+ds) (ce+de) rest s (r.bind f):=by
 rcases h with⟨q,rfl⟩|⟨a,s1,rfl,h2,h3,h4,h5⟩
 ·exact .inl ⟨q,rfl⟩
 ·rcases g a s1 h2 h3 h4 h5 with⟨q,hq⟩|⟨b,s2,hb,g2,g3,g4,g5⟩
  ·exact .inl ⟨q,hq⟩
  ·exact .inr ⟨b,s2,hb,g2,g3,by omega,by omega⟩
theorem Rk.cong {α:Type}{R Q:α→Prop}{cs ce ds de:Nat}{rest:List Tk}{s:PS}{r:Rs α}(h:Rk R cs ce rest s r)(h1:cs=ds)(h2:ce=de)(h3:∀a,R a→Q a):Rk Q ds de rest s r:=by
 subst h1
 subst h2
 rcases h with h|⟨a,s1,g1,g2,g3⟩
 ·exact .inl h
 ·exact .inr ⟨a,s1,g1,h3 a g2,g3⟩
theorem rk_ok {α:Type}{R:α→Prop}{a:α}{s s':PS}{rest:List Tk}(hR:R a)(h:s'.ts.map Tk.er=rest)(hn:s'.ns=s.ns)(hx:s'.nx=s.nx):Rk R 0 0 rest s (.ok a s'):=.inr ⟨a,s',rfl,hR,h,hn,hx⟩
theorem exp_to {x:List UInt8}{s:PS}{u:Tk}{rest:List Tk}(h:s.ts.map Tk.er=u::rest)(hx:u.tx=x):Rk (fun _=>True) 0 0 rest s (expT x s):=by
 unfold expT
 rw[if_pos ((er_tx h).trans hx)]
 exact rk_ok trivial (er_tk h) rfl rfl
theorem kind_to {k:Int}{s:PS}{u:Tk}{rest:List Tk}(h:s.ts.map Tk.er=u::rest)(hk:u.kd=k):Rk (fun t=>t.er=u) 0 0 rest s (kindT k s):=by
 unfold kindT
 rw[if_pos ((er_kd h).trans hk)]
 exact rk_ok (er_hd h) (er_tk h) rfl rfl
theorem whl_to {n:Int}{s:PS}{rest:List Tk}(h:s.ts.map Tk.er=intK n++rest):Rk (fun m=>m=n) 0 0 rest s (whl s):=by
 unfold intK at h
 unfold whl minus
 split at h
 ·rename_i hn
  have e1:s.hd.tx=[45]:=er_tx h
  rw[if_pos e1]
  have h2:s.tk.ts.map Tk.er=tIn (-n)::rest:=er_tk h
  refine(Rk.bind (R:=fun t=>t.er=tIn (-n)) (Q:=fun m=>m=n) (cs:=0) (ce:=0) (ds:=0) (de:=0) (s:=s.tk) (kind_to h2 rfl) fun t s1 ht h3 h4 h5=>?_).cong rfl rfl fun _ x=>x
  refine rk_ok ?_ h3 rfl rfl
  have:t.nn = -n:=congrArg Tk.nn ht
  show -t.nn=n
  omega
 ·rename_i hn
  have e1:¬s.hd.tx=[45]:=by rw[show s.hd.tx=[]from er_tx h];simp
  rw[if_neg e1]
  refine(Rk.bind (R:=fun t=>t.er=tIn n) (Q:=fun m=>m=n) (cs:=0) (ce:=0) (ds:=0) (de:=0) (kind_to h rfl) fun t s1 ht h3 h4 h5=>?_).cong rfl rfl fun _ x=>x
  exact rk_ok (congrArg Tk.nn ht) h3 rfl rfl
def Beh (rest:List Tk):Prop:=(hT rest).tx≠[91]∧∀n,n≤4→sgO n (hT rest).tx=0
theorem beh_of {u:Tk}{rest:List Tk}(h:u.tx=[59]∨u.tx=[123]∨u.tx=[93]∨u.tx=[41]):Beh (u::rest):=by
 unfold Beh
 show u.tx≠_∧∀n,n≤4→sgO n u.tx=0
 rcases h with h|h|h|h<;>rw[h]<;>decide
theorem ex_to {k:Nat}{e:Ex}{s:PS}{rest:List Tk}(hw:e.wf)(hb:Beh rest)(h:s.ts.map Tk.er=e.tks++rest)(hx:s.nx+e.cnt≤2000):Rk (fun e'=>e'.same e=true) 0 e.cnt rest s (exK k s):=by
 rcases(rto_main e hw.1).2 k rest hb.1 hb.2 s h hx with h|⟨a,s',h1,h2,h3,h4,h5⟩
 ·exact .inl h
 ·exact .inr ⟨a,s',h1,Ex.trans h2 (Ex.symm hw.2),h3,h4,h5⟩
theorem ix_to {k:Nat}{x:Nat→Ex}{n:Nat}{s:PS}{rest:List Tk}(hn:n≤1)(hw:∀i,i<n→(x i).wf)(hr:(hT rest).tx≠[91])(h:s.ts.map Tk.er=(if 0<n then tSg [91]::((if 0<n then(x 0).tks else[])++[tSg [93]]) else[])++rest)(hx:s.nx+sm (fun i=>(x i).cnt) n≤2000) :
  Rk (fun l=>l.length=n∧∀i,i<n→(l.getD i .no).same (x i)=true) 0 (sm (fun i=>(x i).cnt) n) rest s (index (dK k) s):=by
 unfold index
 by_cases c:0<n
 ·obtain rfl:n=1:=by omega
  have hc:sm (fun i=>(x i).cnt) 1=(x 0).cnt:=by simp[sm]
  rw[hc]at hx ⊢
  have h1:s.ts.map Tk.er=tSg [91]::((x 0).tks++tSg [93]::rest):=by rw[h];simp
  rw[if_pos (show s.hd.tx=[91]from er_tx h1)]
  have W:=within_to (k:=k) (o:=[91]) (c:=[93]) (rest:=rest) (e:=x 0) (ta:=(x 0).tks) (fun k'=>(rto_main (x 0) (hw 0 c).1).2 k' (tSg [93]::rest) (show([93]:List UInt8)≠[91] by decide) sg_93) s h1 hx
  rcases W with⟨q,hq⟩|⟨a,s',g1,g2,g3,g4,g5⟩
  ·rw[hq];exact .inl ⟨q,rfl⟩
  ·rw[g1]
   refine .inr ⟨[a],s',rfl,⟨rfl,fun i hi=>?_⟩,g3,g4,g5⟩
   obtain rfl:i=0:=by omega
   exact Ex.trans g2 (Ex.symm (hw 0 c).2)
 ·obtain rfl:n=0:=by omega
  have h1:s.ts.map Tk.er=rest:=h
  rw[if_neg (by rw[er_tx h1];exact hr)]
  exact rk_ok ⟨rfl,fun i hi=>absurd hi (Nat.not_lt_zero i)⟩ h1 rfl rfl
theorem nm_kw {x y:List UInt8}(h:NmOk x)(hy:kwS.contains y=true):x≠y:=by
 rintro rfl
 rw[h.kw]at hy
 cases hy
theorem nm_sg {x:List UInt8}(h:NmOk x){c:UInt8}{r:List UInt8}(hc:isAl c=false):x≠c::r:=by
 obtain⟨b,q,rfl,hb⟩:=nm_head h
 intro e
 cases e
 rw[hb]at hc
 cases hc
theorem st_hd {x:St}(h:x.wf):∃u K,x.tks=u::K∧u.tx≠[125]∧u.tx≠elseW:=by
 cases x with
 | no=>exact h.elim
 | mk h x e t l=>
  obtain⟨hk, -, -⟩:=h
  unfold St.tks
  rcases hk with⟨k1,k2, -⟩|⟨k1, -⟩|⟨k1, -⟩
  ·rw[if_pos k1]
   exact⟨tNm h.nm,_,rfl,nm_sg k2 (by decide),nm_kw k2 (by decide)⟩
  ·rw[if_neg (by omega),if_pos k1]
   exact⟨tWd ifW,_,rfl,by decide,by decide⟩
  ·rw[if_neg (by omega),if_neg (by omega),if_pos k1]
   exact⟨tWd forW,_,rfl,by decide,by decide⟩
theorem cat_shift {α:Type}(f:Nat→List α)(n:Nat):cat f (n+1)=f 0++cat (fun i=>f (i+1)) n:=by
 induction n with
 | zero=>simp[cat]
 | succ n ih=>show cat f (n+1)++f (n+1)=_;rw[ih];simp[cat]
def RdT (p:PS→Rs St)(x:St):Prop:=∀(s:PS) (rest:List Tk),(hT rest).tx≠elseW→s.ts.map Tk.er=x.tks++rest→s.nx+x.ce≤2000→s.ns+x.cs≤200→Rk (fun x'=>x'.same x=true) x.cs x.ce rest s (p s)
theorem nxt_else {x:Nat→St}{n:Nat}(h:∀i,i<n→(x i).wf)(rest:List Tk):(hT (cat (fun i=>(x i).tks) n++tSg [125]::rest)).tx≠elseW:=by
 cases n with
 | zero=>show([125]:List UInt8)≠_;decide
 | succ n=>
  obtain⟨u,K,e,h1,h2⟩:=st_hd (h 0 (Nat.succ_pos n))
  rw[cat_shift,e]
  exact h2
theorem many_to {p:PS→Rs St}:∀(n:Nat) (x:Nat→St),(∀i,i<n→(x i).wf)→(∀i,i<n→RdT p (x i))→∀(f:Nat) (l:List St) (s:PS) (rest:List Tk),n<f→s.ts.map Tk.er=cat (fun i=>(x i).tks) n++tSg [125]::rest→s.nx+sm (fun i=>(x i).ce) n≤2000→s.ns+sm (fun i=>(x i).cs) n≤200 →
  Rk (fun r=>∃l2,r=l++l2∧l2.length=n∧∀i,i<n→(l2.getD i .no).same (x i)=true) (sm (fun i=>(x i).cs) n) (sm (fun i=>(x i).ce) n) rest s (many p f l s):=by
 intro n
 induction n with
 | zero=>
  intro x _ _ f l s rest hf h _ _
  obtain⟨f,rfl⟩:∃f',f=f'+1:=⟨f - 1,by omega⟩
  rw[many,if_pos (show s.hd.tx=[125]from er_tx h)]
  exact rk_ok ⟨[],by simp,rfl,fun i hi=>absurd hi (Nat.not_lt_zero i)⟩ (er_tk h) rfl rfl
 | succ n ih=>
  intro x hw hp f l s rest hf h hx hs
  obtain⟨f,rfl⟩:∃f',f=f'+1:=⟨f - 1,by omega⟩
  rw[sm_shift]at hx hs
  obtain⟨u,K,e,h1,h2⟩:=st_hd (hw 0 (Nat.succ_pos n))
  have h':s.ts.map Tk.er=(x 0).tks++(cat (fun i=>(x (i+1)).tks) n++tSg [125]::rest):=by rw[h,cat_shift];simp
  have hd:s.hd.tx=u.tx:=er_tx (us:=u::(K++(cat (fun i=>(x (i+1)).tks) n++tSg [125]::rest))) (by rw[h',e];rfl)
  rw[many,if_neg (by rw[hd];exact h1)]
  refine(Rk.bind (hp 0 (Nat.succ_pos n) s _ (nxt_else (fun i hi=>hw (i+1) (by omega)) rest) h' (by omega) (by omega)) fun a s1 ha h3 h4 h5=>
   ih (fun i=>x (i+1)) (fun i hi=>hw (i+1) (by omega)) (fun i hi=>hp (i+1) (by omega)) f (l++[a]) s1 rest (by omega) h3 (by omega) (by omega) |>.cong (Q:=fun r=>∃l2,r=l++l2∧l2.length=n+1∧∀i,i<n+1→(l2.getD i .no).same (x i)=true) rfl rfl ?_).cong (by rw[sm_shift]) (by rw[sm_shift]) fun _ y=>y
  rintro r ⟨l2,rfl,g1,g2⟩
  refine⟨a::l2,by simp,by simp[g1],fun i hi=>?_⟩
  cases i with
  | zero=>exact ha
  | succ i=>exact g2 i (by omega)
theorem cat_len_ge {x:Nat→St}:∀n,(∀i,i<n→(x i).wf)→n≤(cat (fun i=>(x i).tks) n).length
 | 0,_=>Nat.zero_le _
 | n+1,h=>by
  have:=cat_len_ge n fun i hi=>h i (by omega)
  obtain⟨u,K,e, -⟩:=st_hd (h n (by omega))
  show n+1≤(cat _ n++(x n).tks).length
  rw[List.length_append,e,List.length_cons]
  omega
theorem blk_to {k:Nat}{x:Nat→St}{n:Nat}(hw:∀i,i<n→(x i).wf)(hp:∀i,i<n→∀k,RdT (stK k) (x i)){s:PS}{rest:List Tk}(h:s.ts.map Tk.er=tSg [123]::(cat (fun i=>(x i).tks) n++tSg [125]::rest))(hx:s.nx+sm (fun i=>(x i).ce) n≤2000)(hs:s.ns+sm (fun i=>(x i).cs) n≤200) :
  Rk (fun r=>r.length=n∧∀i,i<n→(r.getD i .no).same (x i)=true) (sm (fun i=>(x i).cs) n) (sm (fun i=>(x i).ce) n) rest s (blk (sK k) s):=by
 unfold blk
 rw[if_pos (show s.hd.tx=[123]from er_tx h)]
 cases k with
 | zero=>exact .inl ⟨_,rfl⟩
 | succ k=>
  have hl:n<s.ts.length+1:=by
   have h1:=congrArg List.length h
   rw[List.length_map,List.length_cons,List.length_append]at h1
   have:=cat_len_ge n hw
   omega
  refine(many_to n x hw (fun i hi=>hp i hi k) (s.ts.length+1) [] s.tk rest hl (er_tk h) hx hs).cong rfl rfl ?_
  rintro r ⟨l2,rfl,g1,g2⟩
  exact⟨g1,g2⟩
theorem rk_one {α:Type}{R:α→Prop}{cs ce:Nat}{rest:List Tk}{s:PS}{r:Rs α}(h:Rk R cs ce rest ⟨s.ts.tail,s.ns+1,s.nx⟩ r):Rk R (1+cs) ce rest s r:=by
 rcases h with h|⟨a,s',h1,h2,h3,h4,h5⟩
 ·exact .inl h
 ·exact .inr ⟨a,s',h1,h2,h3,by have h4':s'.ns=s.ns+1+cs:=h4;omega,h5⟩
theorem as_to {k:Nat}{x:Nat→Ex}{n:Nat}{e:Ex}{rest:List Tk}{ps:Int}{nm:List UInt8}{s1:PS}(hn:n≤1)(hw:∀i,i<n→(x i).wf)(he:e.wf)(h1:s1.ts.map Tk.er=(if 0<n then tSg [91]::((if 0<n then(x 0).tks else[])++[tSg [93]]) else[])++(tSg [61]::(e.tks++tSg [59]::rest)))(hx:s1.nx+(sm (fun i=>(x i).cnt) n+e.cnt)≤2000) :
  Rk (fun y=>∃l a,y=asS ps nm l a∧(l.length=n∧∀i,i<n→(l.getD i .no).same (x i)=true)∧a.same e=true) 0 (sm (fun i=>(x i).cnt) n+e.cnt) rest s1
   ((index (dK k) s1).bind fun l s2=>(expT [61] s2).bind fun _ s3=>(exK k s3).bind fun e s4=>(expT [59] s4).bind fun _ s5=>.ok (asS ps nm l e) s5):=
 (Rk.bind (ds:=0) (de:=e.cnt) (ix_to (k:=k) (rest:=tSg [61]::(e.tks++tSg [59]::rest)) hn hw (show([61]:List UInt8)≠[91] by decide) h1 (by omega)) fun la s2 hla h2 n2 x2=>
  (Rk.bind (ds:=0) (de:=e.cnt) (exp_to h2 rfl) fun _ s3 _ h3 n3 x3=>
   (Rk.bind (ds:=0) (de:=0) (ex_to (k:=k) he (beh_of (.inl rfl)) h3 (by omega)) fun ea s4 hea h4 n4 x4=>
    (Rk.bind (ds:=0) (de:=0) (exp_to h4 rfl) fun _ s5 _ h5 n5 x5=>rk_ok (R:=fun y=>∃l a,y=asS ps nm l a∧(l.length=n∧∀i,i<n→(l.getD i .no).same (x i)=true)∧a.same e=true) ⟨la,ea,rfl,hla,hea⟩ h5 rfl rfl).cong rfl rfl fun _ y=>y).cong rfl (Nat.add_zero _) fun _ y=>y).cong rfl (Nat.zero_add _) fun _ y=>y).cong rfl rfl fun _ y=>y
theorem fo_to {k:Nat}{t:Nat→St}{m:Nat}{lo hi:Int}{nm:List UInt8}{rest:List Tk}{ps:Int}{s1:PS}(hw:∀i,i<m→(t i).wf)(hp:∀i,i<m→∀k,RdT (stK k) (t i))(h1:s1.ts.map Tk.er=tNm nm::tSg [61]::(intK lo++tSg [46,46]::(intK hi++tSg [123]::(cat (fun i=>(t i).tks) m++tSg [125]::rest))))(hx:s1.nx+sm (fun i=>(t i).ce) m≤2000)(hs:s1.ns+sm (fun i=>(t i).cs) m≤200) :
  Rk (fun y=>∃l,y=foS ps nm lo hi l∧l.length=m∧∀i,i<m→(l.getD i .no).same (t i)=true) (sm (fun i=>(t i).cs) m) (sm (fun i=>(t i).ce) m) rest s1
   ((kindT 1 s1).bind fun n s2=>(expT [61] s2).bind fun _ s3=>(whl s3).bind fun lo s4=>(expT [46,46] s4).bind fun _ s5=>(whl s5).bind fun hi s6=>(blk (sK k) s6).bind fun t s7=>.ok (foS ps n.tx lo hi t) s7):=by
 refine(Rk.bind (ds:=sm (fun i=>(t i).cs) m) (de:=sm (fun i=>(t i).ce) m) (kind_to h1 rfl) fun a s2 ha h2 n2 x2=>?_).cong (Nat.zero_add _) (Nat.zero_add _) fun _ y=>y
 have ea:a.tx=nm:=congrArg Tk.tx ha
 refine(Rk.bind (ds:=sm (fun i=>(t i).cs) m) (de:=sm (fun i=>(t i).ce) m) (exp_to h2 rfl) fun _ s3 _ h3 n3 x3=>?_).cong (Nat.zero_add _) (Nat.zero_add _) fun _ y=>y
 refine(Rk.bind (ds:=sm (fun i=>(t i).cs) m) (de:=sm (fun i=>(t i).ce) m) (whl_to h3) fun b s4 hb h4 n4 x4=>?_).cong (Nat.zero_add _) (Nat.zero_add _) fun _ y=>y
 refine(Rk.bind (ds:=sm (fun i=>(t i).cs) m) (de:=sm (fun i=>(t i).ce) m) (exp_to h4 rfl) fun _ s5 _ h5 n5 x5=>?_).cong (Nat.zero_add _) (Nat.zero_add _) fun _ y=>y
 refine(Rk.bind (ds:=sm (fun i=>(t i).cs) m) (de:=sm (fun i=>(t i).ce) m) (whl_to h5) fun c s6 hc h6 n6 x6=>?_).cong (Nat.zero_add _) (Nat.zero_add _) fun _ y=>y
 refine(Rk.bind (ds:=0) (de:=0) (blk_to (k:=k) hw hp h6 (by omega) (by omega)) fun l s7 hl h7 n7 x7=>?_).cong rfl rfl fun _ y=>y
 refine rk_ok ⟨l,?_,hl.1,hl.2⟩ h7 rfl rfl
 rw[ea,hb,hc]
theorem if_to {k:Nat}{t l:Nat→St}{m n:Nat}{e:Ex}{rest:List Tk}{ps:Int}{s1:PS}(he:e.wf)(hw:∀i,i<m→(t i).wf)(hp:∀i,i<m→∀k,RdT (stK k) (t i))(hw2:∀i,i<n→(l i).wf)(hp2:∀i,i<n→∀k,RdT (stK k) (l i))(hr:(hT rest).tx≠elseW)
  (h1:s1.ts.map Tk.er=e.tks++tSg [123]::(cat (fun i=>(t i).tks) m++tSg [125]::((if 0<n then tWd elseW::tSg [123]::(cat (fun i=>(l i).tks) n++[tSg [125]]) else[])++rest)))
  (hx:s1.nx+(e.cnt+sm (fun i=>(t i).ce) m+sm (fun i=>(l i).ce) n)≤2000) (hs:s1.ns+(sm (fun i=>(t i).cs) m+sm (fun i=>(l i).cs) n)≤200) :
  Rk (fun y=>∃a b c,y=ifS ps a b c∧a.same e=true∧(b.length=m∧∀i,i<m→(b.getD i .no).same (t i)=true)∧c.length=n∧∀i,i<n→(c.getD i .no).same (l i)=true) (sm (fun i=>(t i).cs) m+sm (fun i=>(l i).cs) n) (e.cnt+sm (fun i=>(t i).ce) m+sm (fun i=>(l i).ce) n) rest s1
   ((exK k s1).bind fun e s2=>(blk (sK k) s2).bind fun t s3=>if s3.hd.tx=elseW then(elsS (sK k) s3.tk).bind fun l s4=>.ok (ifS ps e t l) s4 else .ok (ifS ps e t []) s3):=by
 refine(Rk.bind (ds:=sm (fun i=>(t i).cs) m+sm (fun i=>(l i).cs) n) (de:=sm (fun i=>(t i).ce) m+sm (fun i=>(l i).ce) n) (ex_to (k:=k) he (beh_of (.inr (.inl rfl))) h1 (by omega)) fun a s2 ha h2 n2 x2=>?_).cong (Nat.zero_add _) (by omega) fun _ y=>y
 refine(Rk.bind (ds:=sm (fun i=>(l i).cs) n) (de:=sm (fun i=>(l i).ce) n) (blk_to (k:=k) hw hp h2 (by omega) (by omega)) fun b s3 hb h3 n3 x3=>?_)
 by_cases c:0<n
 ·rw[if_pos c]at h3
  have h3':s3.ts.map Tk.er=tWd elseW::(tSg [123]::(cat (fun i=>(l i).tks) n++tSg [125]::rest)):=by rw[h3];simp
  rw[if_pos (show s3.hd.tx=elseW from er_tx h3')]
  have h4:=er_tk h3'
  unfold elsS
  rw[if_neg (by rw[show s3.tk.hd.tx=[123]from er_tx h4];decide)]
  have B:=Rk.bind (s:=s3.tk) (ds:=0) (de:=0) (Q:=fun y=>∃a b c,y=ifS ps a b c∧a.same e=true∧(b.length=m∧∀i,i<m→(b.getD i .no).same (t i)=true)∧c.length=n∧∀i,i<n→(c.getD i .no).same (l i)=true) (f:=fun l s4=>.ok (ifS ps a b l) s4) (blk_to (k:=k) hw2 hp2 h4 (by show s3.nx+_≤_;omega) (by show s3.ns+_≤_;omega)) fun d s4 hd h5 n5 x5=>rk_ok ⟨a,b,d,rfl,ha,hb,hd⟩ h5 rfl rfl
  rcases B with B|⟨y,s',b1,b2,b3,b4,b5⟩
  ·exact .inl B
  ·exact .inr ⟨y,s',b1,b2,b3,b4,b5⟩
 ·obtain rfl:n=0:=by omega
  have h3':s3.ts.map Tk.er=rest:=h3
  rw[if_neg (by rw[er_tx h3'];exact hr)]
  exact rk_ok ⟨a,b,[],rfl,ha,hb,rfl,fun i hi=>absurd hi (Nat.not_lt_zero i)⟩ h3' rfl rfl
theorem st_to (x:St):x.wf→∀k,RdT (stK k) x:=by
 induction x using St.ind with
 | H x it il=>
  cases x with
  | no=>exact fun h=>h.elim
  | mk h x e t l=>
   intro hw k s rest hr hu hx hs
   obtain⟨hk,ht,hl⟩:=hw
   have it':∀i,i<h.ts.n→∀k,RdT (stK k) (t i):=fun i hi=>it i hi (ht i hi)
   have il':∀i,i<h.es.n→∀k,RdT (stK k) (l i):=fun i hi=>il i hi (hl i hi)
   have ecs:(St.mk h x e t l).cs=1+sm (fun i=>(t i).cs) h.ts.n+sm (fun i=>(l i).cs) h.es.n:=rfl
   have ece:(St.mk h x e t l).ce=sm (fun i=>(x i).cnt) h.xs.n+(if h.kd=1∨h.kd=2 then e.cnt else 0)+sm (fun i=>(t i).ce) h.ts.n+sm (fun i=>(l i).ce) h.es.n:=rfl
   generalize (St.mk h x e t l).cs=CS at *
   generalize (St.mk h x e t l).ce=CE at *
   rw[stK_eq]
   unfold stm
   unfold St.tks at hu
   have hns:¬s.ns=200:=by omega
   rcases hk with⟨k1,k2,k3,k4,k5,k6,k7,k8,k9⟩|⟨k1,k2,k3,k4,k5,k6⟩|⟨k1,k2,k3,k4,k5,k6,k7⟩
   ·rw[if_pos k1]at hu
    rw[if_pos (.inl k1),k8,k9]at ece
    rw[k8,k9]at ecs
    simp only[sm]at ecs ece
    have hu':s.ts.map Tk.er=tNm h.nm::((if 0<h.xs.n then tSg [91]::((if 0<h.xs.n then(x 0).tks else[])++[tSg [93]]) else[])++(tSg [61]::(e.tks++tSg [59]::rest))):=by rw[hu];unfold nameK;simp
    have hkd:s.hd.kd=1:=er_kd hu'
    have htx:s.hd.tx=h.nm:=er_tx hu'
    rw[if_neg (fun c=>c.1 hkd),if_neg hns]
    dsimp only
    rw[if_neg (by rw[htx];exact nm_kw k2 (by decide)),if_neg (by rw[htx];exact nm_kw k2 (by decide)),htx]
    refine(rk_one (as_to (k:=k) (s1:=⟨s.ts.tail,s.ns+1,s.nx⟩) k3 k4 k5 (er_tk hu') (by show s.nx+_≤_;omega))).cong (by omega) (by omega) ?_
    rintro y ⟨la,a,rfl,hla,ha⟩
    exact St.same_iff.2 ⟨⟨k1.symm,rfl,k6.symm,k7.symm,k8.symm,k9.symm⟩,ha,⟨hla.1,fun i hi=>hla.2 i (by(have:i<la.length:=hi);omega)⟩,fun i hi=>absurd hi (Nat.not_lt_zero i),fun i hi=>absurd hi (Nat.not_lt_zero i)⟩
   ·have n1:¬h.kd=1:=by omega
    rw[if_neg n1,if_pos k1]at hu
    rw[if_pos (.inr k1),k3]at ece
    simp only[sm]at ece
    have hu':s.ts.map Tk.er=tWd ifW::(e.tks++tSg [123]::(cat (fun i=>(t i).tks) h.ts.n++tSg [125]::((if 0<h.es.n then tWd elseW::tSg [123]::(cat (fun i=>(l i).tks) h.es.n++[tSg [125]]) else[])++rest))):=by rw[hu];simp
    have htx:s.hd.tx=ifW:=er_tx hu'
    rw[if_neg (fun c=>c.2.1 htx),if_neg hns]
    dsimp only
    rw[if_pos htx]
    refine(rk_one (if_to (k:=k) (s1:=⟨s.ts.tail,s.ns+1,s.nx⟩) k4 ht it' hl il' hr (er_tk hu') (by show s.nx+_≤_;omega) (by show s.ns+1+_≤_;omega))).cong (by omega) (by omega) ?_
    rintro y ⟨a,b,c,rfl,ha,hb,hc1,hc2⟩
    exact St.same_iff.2 ⟨⟨k1.symm,k2.symm,k5.symm,k6.symm,hb.1,hc1⟩,ha,⟨k3.symm,fun i hi=>absurd hi (Nat.not_lt_zero i)⟩,fun i hi=>hb.2 i (by(have:i<b.length:=hi);omega),fun i hi=>hc2 i (by(have:i<c.length:=hi);omega)⟩
   ·have n1:¬h.kd=1:=by omega
    have n2:¬h.kd=2:=by omega
    rw[if_neg n1,if_neg n2,if_pos k1]at hu
    rw[if_neg (by omega),k3,k7]at ece
    rw[k7]at ecs
    simp only[sm]at ecs ece
    have hu':s.ts.map Tk.er=tWd forW::(tNm h.nm::tSg [61]::(intK h.lo++tSg [46,46]::(intK h.hi++tSg [123]::(cat (fun i=>(t i).tks) h.ts.n++tSg [125]::rest)))):=by rw[hu];simp
    have htx:s.hd.tx=forW:=er_tx hu'
    rw[if_neg (fun c=>c.2.2 htx),if_neg hns]
    dsimp only
    rw[if_neg (by rw[htx];decide),if_pos htx]
    refine(rk_one (fo_to (k:=k) (s1:=⟨s.ts.tail,s.ns+1,s.nx⟩) ht it' (er_tk hu') (by show s.nx+_≤_;omega) (by show s.ns+1+_≤_;omega))).cong (by omega) (by omega) ?_
    rintro y ⟨b,rfl,hb1,hb2⟩
    exact St.same_iff.2 ⟨⟨k1.symm,rfl,rfl,rfl,hb1,k7.symm⟩,by rw[k4];rfl,⟨k3.symm,fun i hi=>absurd hi (Nat.not_lt_zero i)⟩,fun i hi=>hb2 i (by(have:i<b.length:=hi);omega),fun i hi=>absurd hi (Nat.not_lt_zero i)⟩
def R0 {α:Type}(R:α→Prop)(rest:List Tk)(s:PS)(r:Rs α):Prop:=Rk R 0 0 rest s r
theorem R0.bind {α β:Type}{R:α→Prop}{Q:β→Prop}{mid rest:List Tk}{s:PS}{r:Rs α}{f:α→PS→Rs β}(h:R0 R mid s r)(g:∀a s1,R a→s1.ts.map Tk.er=mid→R0 Q rest s1 (f a s1)):R0 Q rest s (r.bind f):=
 Rk.bind (cs:=0) (ce:=0) (ds:=0) (de:=0) h fun a s1 ha hm _ _=>g a s1 ha hm
theorem R0.tk {α:Type}{R:α→Prop}{rest:List Tk}{s:PS}{r:Rs α}(h:R0 R rest s.tk r):R0 R rest s r:=h
theorem numb_to {e:Ex}{s:PS}{rest:List Tk}(he:NumX e)(h:s.ts.map Tk.er=numK e++rest):R0 (fun e'=>e'.same e=true) rest s (numb s):=by
 unfold numb
 rcases he with⟨ps,n,rfl,hn⟩|⟨ps,m,g,rfl,h0,h1⟩
 ·have h:s.ts.map Tk.er=intK n++rest:=h
  have W:=whl_to (n:=n) h
  unfold whl at W
  have hk:¬(minus s).2.hd.kd=3:=by
   unfold minus intK at *
   split at h
   ·rw[if_pos (show s.hd.tx=[45]from er_tx h)]
    rw[show s.tk.hd.kd=2 from er_kd (er_tk h)]
    decide
   ·rw[if_neg (by rw[show s.hd.tx=[]from er_tx h];simp)]
    rw[show s.hd.kd=2 from er_kd h]
    decide
  rw[if_neg hk]
  exact R0.bind (R:=fun k=>k=n) W fun a s1 ha hm=>rk_ok (by subst ha;exact Ex.same_iff.2 ⟨rfl,rfl,rfl,rfl,rfl,rfl,fun i hi=>absurd hi (Nat.not_lt_zero i)⟩) hm rfl rfl
 ·obtain⟨w1,w2,w3,w4⟩:=neF_is (m:=m) h0 h1
  have h:s.ts.map Tk.er=fltK (neF m g)++rest:=h
  unfold fltK at h
  rw[w3,w4]at h
  cases m with
  | true=>
   have h:s.ts.map Tk.er=tSg [45]::tFl g::rest:=h
   have em:minus s=(true,s.tk):=by unfold minus;rw[if_pos (show s.hd.tx=[45]from er_tx h)]
   have h2:=er_tk h
   rw[em]
   dsimp only
   rw[if_pos (show s.tk.hd.kd=3 from er_kd h2)]
   have ef:s.tk.hd.ff=g:=congrArg Tk.ff (er_hd h2)
   exact rk_ok (by rw[ef];exact Ex.same_iff.2 ⟨rfl,rfl,rfl,rfl,rfl,rfl,fun i hi=>absurd hi (Nat.not_lt_zero i)⟩) (er_tk h2) rfl rfl
  | false=>
   have h:s.ts.map Tk.er=tFl g::rest:=h
   have em:minus s=(false,s):=by unfold minus;rw[if_neg (by rw[show s.hd.tx=[]from er_tx h];simp)]
   rw[em]
   dsimp only
   rw[if_pos (show s.hd.kd=3 from er_kd h)]
   have ef:s.hd.ff=g:=congrArg Tk.ff (er_hd h)
   exact rk_ok (by rw[ef];exact Ex.same_iff.2 ⟨rfl,rfl,rfl,rfl,rfl,rfl,fun i hi=>absurd hi (Nat.not_lt_zero i)⟩) (er_tk h) rfl rfl
theorem typ_to {ty:Int}{s:PS}{rest:List Tk}(ht:ty=1∨ty=2∨ty=3)(h:s.ts.map Tk.er=tWd (typT ty)::rest):R0 (fun y=>y=ty) rest s (typN s):=by
 unfold typN
 have e:s.hd.tx=typT ty:=er_tx h
 rcases ht with rfl|rfl|rfl
 ·rw[if_pos (by rw[e];rfl)];exact rk_ok rfl (er_tk h) rfl rfl
 ·rw[if_neg (by rw[e];decide),if_pos (by rw[e];rfl)];exact rk_ok rfl (er_tk h) rfl rfl
 ·rw[if_neg (by rw[e];decide),if_neg (by rw[e];decide)]
  exact R0.bind (exp_to h rfl) fun _ s1 _ hm=>rk_ok rfl hm rfl rfl
theorem decl_to {d:De}{s:PS}{rest:List Tk}(hd:d.wf)(h:s.ts.map Tk.er=d.tks++rest):R0 (fun d'=>d'.same d=true) rest s (decl s):=by
 have h:s.ts.map Tk.er=tWd (if d.inp then inpW else varW)::tNm d.nm::tSg [58]::tWd (typT d.ty)::((if 0<d.len then tSg [91]::tIn d.len::[tSg [93]] else[])++((if d.rg then tWd [105,110]::tSg [91]::(numK d.lo++tSg [44]::(numK d.hi++[tSg [93]])) else[])++tSg [59]::rest)):=by
  rw[h];unfold De.tks;simp
 have hi:(s.hd.tx == inpW)=d.inp:=by
  rw[show s.hd.tx=(if d.inp then inpW else varW)from er_tx h]
  cases d.inp<;>decide
 unfold decl
 rw[hi]
 refine R0.tk (R0.bind (kind_to (er_tk h) rfl) fun t s1 ht h1=>R0.bind (exp_to h1 rfl) fun _ s2 _ h2=>R0.bind (typ_to hd.ty h2) fun ty s3 hty h3=>?_)
 have et:t.tx=d.nm:=congrArg Tk.tx ht
 subst hty
 rw[et]
 unfold deT
 cases hr:d.rg with
 | true=>
  obtain⟨r1,r2,r3,r4⟩:=hd.r1 hr
  rw[if_neg (show ¬0<d.len by omega),hr,if_pos rfl,List.nil_append]at h3
  have h3:s3.ts.map Tk.er=tWd [105,110]::tSg [91]::(numK d.lo++tSg [44]::(numK d.hi++tSg [93]::tSg [59]::rest)):=by rw[h3];simp
  rw[if_pos ⟨r1,show s3.hd.tx=_ from er_tx h3⟩]
  refine R0.tk (R0.bind (exp_to (er_tk h3) rfl) fun _ s4 _ h4=>R0.bind (numb_to r2 h4) fun a s5 ha h5=>R0.bind (exp_to h5 rfl) fun _ s6 _ h6=>R0.bind (numb_to r3 h6) fun b s7 hb h7=>R0.bind (exp_to h7 rfl) fun _ s8 _ h8=>R0.bind (exp_to h8 rfl) fun _ s9 _ h9=>?_)
  exact rk_ok (De.same_iff.2 ⟨rfl,rfl,rfl,r4.symm,hr.symm,ha,hb⟩) h9 rfl rfl
 | false=>
  obtain⟨r1,r2,r3,r4,r5⟩:=hd.r0 hr
  rw[hr,if_neg (show ¬(false=true) by decide),List.nil_append]at h3
  by_cases hl:0<d.len
  ·have hip:d.inp=false:=by
    cases hh:d.inp with
    | false=>rfl
    | true=>have:=r5 hh;omega
   rw[if_pos hl]at h3
   have h3:s3.ts.map Tk.er=tSg [91]::tIn d.len::tSg [93]::tSg [59]::rest:=by rw[h3];simp
   rw[hip,if_neg (fun c=>by cases c.1),if_pos ⟨rfl,show s3.hd.tx=_ from er_tx h3⟩]
   refine R0.tk (R0.bind (kind_to (er_tk h3) rfl) fun n s4 hn h4=>R0.bind (exp_to h4 rfl) fun _ s5 _ h5=>R0.bind (exp_to h5 rfl) fun _ s6 _ h6=>?_)
   exact rk_ok (De.same_iff.2 ⟨hip.symm,rfl,rfl,congrArg Tk.nn hn,hr.symm,by rw[r1];rfl,by rw[r2];rfl⟩) h6 rfl rfl
  ·rw[if_neg hl,List.nil_append]at h3
   have e:s3.hd.tx=[59]:=er_tx h3
   rw[if_neg (fun c=>absurd (e.symm.trans c.2) (by decide)),if_neg (fun c=>absurd (e.symm.trans c.2) (by decide))]
   exact R0.bind (exp_to h3 rfl) fun _ s4 _ h4=>rk_ok (De.same_iff.2 ⟨rfl,rfl,rfl,by show(0:Int)=d.len;omega,hr.symm,by rw[r1];rfl,by rw[r2];rfl⟩) h4 rfl rfl
theorem decls_to:∀(n:Nat) (x:Nat→De),(∀i,i<n→(x i).wf)→∀(f:Nat) (l:List De) (s:PS) (rest:List Tk),n<f→l.length+n≤96→((hT rest).tx≠inpW∧(hT rest).tx≠varW)→s.ts.map Tk.er=cat (fun i=>(x i).tks) n++rest →
  R0 (fun r=>∃l2,r=l++l2∧l2.length=n∧∀i d,i<n→(l2.getD i d).same (x i)=true) rest s (decls f l s):=by
 intro n
 induction n with
 | zero=>
  intro x _ f l s rest hf _ hr h
  obtain⟨f,rfl⟩:∃f',f=f'+1:=⟨f - 1,by omega⟩
  have h:s.ts.map Tk.er=rest:=h
  rw[decls,if_neg (by rw[er_tx h];exact fun c=>c.elim hr.1 hr.2)]
  exact rk_ok ⟨[],by simp,rfl,fun i d hi=>absurd hi (Nat.not_lt_zero i)⟩ h rfl rfl
 | succ n ih=>
  intro x hw f l s rest hf hn hr h
  obtain⟨f,rfl⟩:∃f',f=f'+1:=⟨f - 1,by omega⟩
  have h':s.ts.map Tk.er=(x 0).tks++(cat (fun i=>(x (i+1)).tks) n++rest):=by rw[h,cat_shift];simp
  have hd:s.hd.tx=(if(x 0).inp then inpW else varW):=er_tx (us:=tWd (if(x 0).inp then inpW else varW)::_) (by rw[h'];rfl)
  rw[decls,if_pos (by rw[hd];cases (x 0).inp<;>simp),if_neg (by omega)]
  refine R0.bind (decl_to (hw 0 (Nat.succ_pos n)) h') fun a s1 ha h1=>Rk.cong (ih (fun i=>x (i+1)) (fun i hi=>hw (i+1) (by omega)) f (l++[a]) s1 rest (by omega) (by rw[List.length_append,List.length_singleton];omega) hr h1) rfl rfl ?_
  rintro r ⟨l2,rfl,g1,g2⟩
  refine⟨a::l2,by simp,by simp[g1],fun i d hi=>?_⟩
  cases i with
  | zero=>exact ha
  | succ i=>exact g2 i d (by omega)
theorem prog_to {p:Pr}(h:PrWf p){ts:List Tk}(hu:ts.map Tk.er=p.tks++[noT]):(∃q,prog ⟨ts,0,0⟩=.no 111 q)∨∃p' s',prog ⟨ts,0,0⟩=.ok p' s'∧p'.same p=true:=by
 have hu:(⟨ts,0,0⟩:PS).ts.map Tk.er=tWd ticksW::tIn p.ticks::tSg [59]::(cat (fun i=>(p.d i).tks) p.ds.n++tWd initW::tSg [123]::(cat (fun i=>(p.i i).tks) p.is.n++tSg [125]::tWd stepW::tSg [123]::(cat (fun i=>(p.s i).tks) p.ss.n++tSg [125]::[noT]))):=by
  show ts.map Tk.er=_;rw[hu];unfold Pr.tks;simp
 have hcs:=h.cs
 have hce:=h.ce
 unfold Pr.cs at hcs
 unfold Pr.ce at hce
 have K:Rk (fun p'=>p'.same p=true) (sm (fun i=>(p.i i).cs) p.is.n+sm (fun i=>(p.s i).cs) p.ss.n) (sm (fun i=>(p.i i).ce) p.is.n+sm (fun i=>(p.s i).ce) p.ss.n) [noT] ⟨ts,0,0⟩ (prog ⟨ts,0,0⟩):=by
  unfold prog
  generalize hs0:(⟨ts,0,0⟩:PS)=s0 at *
  have z1:s0.ns=0:=by rw[←hs0]
  have z2:s0.nx=0:=by rw[←hs0]
  refine(Rk.bind (ds:=sm (fun i=>(p.i i).cs) p.is.n+sm (fun i=>(p.s i).cs) p.ss.n) (de:=sm (fun i=>(p.i i).ce) p.is.n+sm (fun i=>(p.s i).ce) p.ss.n) (exp_to hu rfl) fun _ s1 _ h1 n1 x1=>?_).cong (Nat.zero_add _) (Nat.zero_add _) fun _ y=>y
  refine(Rk.bind (ds:=sm (fun i=>(p.i i).cs) p.is.n+sm (fun i=>(p.s i).cs) p.ss.n) (de:=sm (fun i=>(p.i i).ce) p.is.n+sm (fun i=>(p.s i).ce) p.ss.n) (kind_to h1 rfl) fun t s2 ht h2 n2 x2=>?_).cong (Nat.zero_add _) (Nat.zero_add _) fun _ y=>y
  refine(Rk.bind (ds:=sm (fun i=>(p.i i).cs) p.is.n+sm (fun i=>(p.s i).cs) p.ss.n) (de:=sm (fun i=>(p.i i).ce) p.is.n+sm (fun i=>(p.s i).ce) p.ss.n) (exp_to h2 rfl) fun _ s3 _ h3 n3 x3=>?_).cong (Nat.zero_add _) (Nat.zero_add _) fun _ y=>y
  have hlen:p.ds.n<s3.ts.length+1:=by
   have hl:=congrArg List.length h3
   rw[List.length_map,List.length_append]at hl
   have:∀n,n≤(cat (fun i=>(p.d i).tks) n).length:=fun n=>by
    induction n with
    | zero=>exact Nat.zero_le _
    | succ n ih=>
     have h1:1≤(p.d n).tks.length:=Nat.succ_le_succ (Nat.zero_le _)
     show n+1≤(cat _ n++(p.d n).tks).length
     rw[List.length_append]
     omega
   have:=this p.ds.n
   omega
  refine(Rk.bind (ds:=sm (fun i=>(p.i i).cs) p.is.n+sm (fun i=>(p.s i).cs) p.ss.n) (de:=sm (fun i=>(p.i i).ce) p.is.n+sm (fun i=>(p.s i).ce) p.ss.n) (decls_to p.ds.n p.d h.d _ [] s3 (tWd initW::tSg [123]::(cat (fun i=>(p.i i).tks) p.is.n++tSg [125]::tWd stepW::tSg [123]::(cat (fun i=>(p.s i).tks) p.ss.n++tSg [125]::[noT]))) hlen (by have:=h.dn;simpa using this) (show(initW≠inpW∧initW≠varW) by decide) h3) fun d s4 hd h4 n4 x4=>?_).cong (Nat.zero_add _) (Nat.zero_add _) fun _ y=>y
  refine(Rk.bind (ds:=sm (fun i=>(p.i i).cs) p.is.n+sm (fun i=>(p.s i).cs) p.ss.n) (de:=sm (fun i=>(p.i i).ce) p.is.n+sm (fun i=>(p.s i).ce) p.ss.n) (exp_to h4 rfl) fun _ s5 _ h5 n5 x5=>?_).cong (Nat.zero_add _) (Nat.zero_add _) fun _ y=>y
  refine Rk.bind (blk_to (k:=24) h.i (fun i hi k=>st_to (p.i i) (h.i i hi) k) h5 (by omega) (by omega)) fun a s6 ha h6 n6 x6=>?_
  refine(Rk.bind (ds:=sm (fun i=>(p.s i).cs) p.ss.n) (de:=sm (fun i=>(p.s i).ce) p.ss.n) (exp_to h6 rfl) fun _ s7 _ h7 n7 x7=>?_).cong (Nat.zero_add _) (Nat.zero_add _) fun _ y=>y
  refine(Rk.bind (ds:=0) (de:=0) (blk_to (k:=24) h.s (fun i hi k=>st_to (p.s i) (h.s i hi) k) h7 (by omega) (by omega)) fun b s8 hb h8 n8 x8=>?_).cong rfl rfl fun _ y=>y
  unfold endT
  rw[if_pos (show s8.hd.kd=0 from er_kd h8)]
  obtain⟨l2,e2,g1,g2⟩:=hd
  have e2:d=l2:=e2
  subst e2
  refine rk_ok (Pr.same_iff.2 ⟨congrArg Tk.nn ht,sameD_iff.2 ⟨g1,fun i hi=>g2 i _ (by(have:i<d.length:=hi);omega)⟩,sameS_iff.2 ⟨ha.1,fun i hi=>ha.2 i (by(have:i<a.length:=hi);omega)⟩,sameS_iff.2 ⟨hb.1,fun i hi=>hb.2 i (by(have:i<b.length:=hi);omega)⟩⟩) h8 rfl rfl
 rcases K with K|⟨p',s',k1,k2, -⟩
 ·exact .inl K
 ·exact .inr ⟨p',s',k1,k2⟩
theorem rsP_back {p:Pr}(hp:PrWf p)(hl:(p.txt prT).length≤16384):(∃q,(if(lexV (p.txt prT)).2.1=0 then prog ⟨(lexV (p.txt prT)).1,0,0⟩else .no (lexV (p.txt prT)).2.1 ((lexV (p.txt prT)).2.2:Nat))=.no 111 q) ∨
  ∃p' s',(if(lexV (p.txt prT)).2.1=0 then prog ⟨(lexV (p.txt prT)).1,0,0⟩else .no (lexV (p.txt prT)).2.1 ((lexV (p.txt prT)).2.2:Nat))=.ok p' s'∧p'.same p=true:=by
 obtain⟨ts,R,he⟩:=lexd_pr p hp 0
 rw[Nat.zero_add]at R
 rw[lexV_run hl R,if_pos rfl]
 exact prog_to hp he
theorem lexV_ok {s:List UInt8}(h:(lexV s).2.1=0):TsOk (lexV s).1:=by
 by_cases hs:s.length≤16384
 ·exact run_ok (lexV_good hs h).1
 ·unfold lexV at h
  rw[if_pos (by omega)]at h
  cases h
def recV (cs:List Frame):Value×List Frame:=match recoverD cs with|some p=>p|none=>(.nilIface,cs)
theorem wpS_seq_rec {P:Program}{Q:Exit→Act→List Frame→World→Prop}{a:Act}{cs cs':List Frame}{w:World}{id:Nat}{o:Oper}{l:List Oper}{y:Code}{v:Value}(hgd:o.guard=none)
  (ho:o.op=.call { callee:=.builtin .recover,args:=#[],argTypes:=#[] }) (hrec:recV cs=(v,cs'))
  (h:wpList P (o::l).toArray (Exit.then (y.wp P fun e a' w'=>Q e a' cs' w') fun e a' w'=>Q e a' cs' w') l (a.put o.dst v) w):(Code.seq (Code.region id (o::l).toArray false) y).wpS P Q a cs w:=by
 apply wpS_seq
 intro b k hb hro
 have hrun:(execOp a.eval o).run P w=.ok .recover w:=by unfold execOp;rw[ho];rfl
 have hr:List.range (o::l).toArray.size=0::List.range' 1 l.length:=by
  rw[List.size_toArray,List.length_cons,List.range_eq_range',List.range'_succ]
 have h2:wpOps P (o::l).toArray (Exit.then (y.wp P fun e a' w'=>Q e a' cs' w') fun e a' w'=>Q e a' cs' w') (List.range' 1 l.length) (a.put o.dst v) w:=by
  rw[wpOps_eq_wpList l 1 (fun j=>by rw[List.getElem?_toArray,Nat.add_comm,List.getElem?_cons_succ])]
  exact h
 obtain⟨e,a',w',hq,harr⟩:=wp_ops _ _ _ h2 b k cs'
 refine⟨e,a',cs',w',?_,.of_steps (.one step_region) ?_⟩
 ·cases e<;>first|exact wpS_of_wp hq|exact hq
 ·rw[hr]
  have ho0:(o::l).toArray[0]? = some o:=rfl
  have hw:Region.wanted o (yielded (o::l).toArray a.tmps)=true:=by simp[Region.wanted,hgd]
  have hg:=stepG_op (P:=P) (b:=b) (k:=k) (cs:=cs) (w:=w) (rest:=List.range' 1 l.length) ho0 hw
  have hfin:∀v,(b.at a (.inRegion (o::l).toArray (0::List.range' 1 l.length)::k)).finish v=b.at (a.put o.dst v) (.inRegion (o::l).toArray (List.range' 1 l.length)::k):=by
   intro v;rw[Frame.finish_at,ho0];rfl
  have hk:(b.at a (.inRegion (o::l).toArray (0::List.range' 1 l.length)::k)).kind=.deferred:=hb
  have htr:=tryRecover_deferred hk cs
  refine .of_steps (.one (step_lone_go ?_)) harr
  rw[hg,←hfin]
  unfold recV at hrec
  simp only[Frame.at]at htr ⊢
  cases e2:recoverD cs with
  | none=>rw[e2]at hrec;cases hrec;simp[stepG.apply,hrun,htr,e2]
  | some p=>rw[e2]at hrec;cases hrec;simp[stepG.apply,hrun,htr,e2]
end Go.Proofs.YthmlhkllbichgaaGreatDoor
