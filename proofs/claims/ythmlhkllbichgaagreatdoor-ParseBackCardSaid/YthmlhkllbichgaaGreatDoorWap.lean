/-
  ParseBack holds, tied to the program's text. (part 16 of 41) Conditions: none beside what the card ties.
-/
import Derived.Test.YthmlhkllbichgaaGreatDoorWao
import Derived.Test.YthmlhkllbichgaaGreatDoorWal
import Derived.Test.YthmlhkllbichgaaGreatDoorWan
namespace Go.Proofs.YthmlhkllbichgaaGreatDoor
set_option maxHeartbeats 16000000
open Go.RowKit
set_option maxRecDepth 100000
structure PS where
 ts:List Tk
 ns:Nat
 nx:Nat
inductive Rs (α:Type) where
 | ok (a:α) (s:PS)
 | no (e p:Int)
def Rs.bind {α β:Type}(r:Rs α)(f:α→PS→Rs β):Rs β:=
 match r with
 | .ok a s=>f a s
 | .no e p=>.no e p
theorem bind_ok {α β:Type}(a:α)(s:PS)(f:α→PS→Rs β):(Rs.ok a s).bind f=f a s:=rfl
theorem bind_no {α β:Type}(e p:Int)(f:α→PS→Rs β):(Rs.no e p:Rs α).bind f=.no e p:=rfl
def PS.hd (s:PS):Tk:=s.ts.headD noT
def PS.tk (s:PS):PS:=⟨s.ts.tail,s.ns,s.nx⟩
def bad {α:Type}(s:PS):Rs α:=.no 110 s.hd.ps
def expT (x:List UInt8)(s:PS):Rs Unit:=if s.hd.tx=x then .ok () s.tk else bad s
def kindT (k:Int)(s:PS):Rs Tk:=if s.hd.kd=k then .ok s.hd s.tk else bad s
def endT {α:Type}(a:α)(s:PS):Rs α:=if s.hd.kd=0 then .ok a s else bad s
def whole (e:Ex)(s:PS):Rs Ex:=if s.nx=2000 then .no 112 e.h.ps else .ok e ⟨s.ts,s.ns,s.nx+1⟩
def opX (op ps:Int)(l:List Ex):Ex:=.mk ⟨op,ps,false,0,0,[],⟨none,l.length,l.length⟩⟩ (fun i=>l.getD i .no)
def nmX (ps:Int)(nm:List UInt8)(l:List Ex):Ex:=.mk ⟨4,ps,false,0,0,nm,⟨none,l.length,l.length⟩⟩ (fun i=>l.getD i .no)
def boX (ps:Int)(b:Bool):Ex:=.mk ⟨1,ps,b,0,0,[],⟨none,0,0⟩⟩ (fun _=>.no)
def inX (ps:Int)(n:Int):Ex:=.mk ⟨2,ps,false,n,0,[],⟨none,0,0⟩⟩ (fun _=>.no)
def flX (ps:Int)(f:Int):Ex:=.mk ⟨3,ps,false,0,f,[],⟨none,0,0⟩⟩ (fun _=>.no)
def sgO (n:Nat)(x:List UInt8):Int:=
 if n=0 then(if x=[124,124]then 16 else 0)
 else if n=1 then(if x=[38,38]then 15 else 0)
 else if n=2 then(if x=[60]then 9 else if x=[60,61]then 10 else if x=[61,61]then 11 else if x=[33,61]then 12 else if x=[62]then 13 else if x=[62,61]then 14 else 0)
 else if n=3 then(if x=[43]then 5 else if x=[45]then 6 else 0)
 else(if x=[42]then 7 else if x=[47]then 8 else 0)
def binr (n:Nat)(p:PS→Rs Ex)(e:Ex)(s:PS):Rs Ex:=(p s.tk).bind fun b s'=>whole (opX (sgO n s.hd.tx) s.hd.ps [e,b]) s'
def chain (n:Nat)(p:PS→Rs Ex):Nat→Ex→PS→Rs Ex
 | 0,_,_=>.no 0 0
 | f+1,e,s=>if sgO n s.hd.tx=0 then .ok e s else(binr n p e s).bind fun e' s'=>chain n p f e' s'
def lvl (u:PS→Rs Ex):Nat→PS→Rs Ex
 | 0=>u
 | m+1=>fun s=>(lvl u m s).bind fun e s'=>if m=2 then(if sgO 2 s'.hd.tx=0 then .ok e s' else binr 2 (lvl u m) e s')else chain (4-m) (lvl u m) (s'.ts.length+1) e s'
def unT (x:List UInt8):Int:=if x=[45]then 17 else if x=[33]then 18 else 0
def atT (t:Tk):Int:=
 if t.kd=2 then 2 else if t.kd=3 then 3 else if t.kd=1 then 4
 else if t.tx=[116,114,117,101]∨t.tx=[102,97,108,115,101]then 1
 else if t.tx=[105,110,116]then 19 else if t.tx=[102,108,111,97,116]then 20 else if t.tx=[97,98,115]then 21 else 0
def within (d:Option (PS→Rs Ex))(o c:List UInt8)(s:PS):Rs Ex:=
 if s.hd.tx=o then
  (match d with
  | none=>.no 111 s.hd.ps
  | some u=>(lvl u 5 s.tk).bind fun e s'=>(expT c s').bind fun _ s''=>.ok e s'')
 else bad s
def index (d:Option (PS→Rs Ex))(s:PS):Rs (List Ex):=if s.hd.tx=[91] then(within d [91] [93] s).bind fun e s'=>.ok [e] s' else .ok [] s
def atom (d:Option (PS→Rs Ex))(s:PS):Rs Ex:=
 if s.hd.tx=[40]then within d [40] [41] s
 else if atT s.hd=0 then bad s
 else if atT s.hd=1 then whole (boX s.hd.ps (s.hd.tx == [116,114,117,101])) s.tk
 else if atT s.hd=2 then whole (inX s.hd.ps s.hd.nn) s.tk
 else if atT s.hd=3 then whole (flX s.hd.ps s.hd.ff) s.tk
 else if atT s.hd=4 then(index d s.tk).bind fun l s'=>whole (nmX s.hd.ps s.hd.tx l) s'
 else(within d [40] [41] s.tk).bind fun e s'=>whole (opX (atT s.hd) s.hd.ps [e]) s'
def un (d:Option (PS→Rs Ex))(s:PS):Rs Ex:=
 if unT s.hd.tx=0 then atom d s
 else match d with
  | none=>.no 111 s.hd.ps
  | some u=>(u s.tk).bind fun e s'=>whole (opX (unT s.hd.tx) s.hd.ps [e]) s'
def unK:Nat→PS→Rs Ex
 | 0=>un none
 | k+1=>un (some (unK k))
def dK:Nat→Option (PS→Rs Ex)
 | 0=>none
 | k+1=>some (unK k)
theorem unK_eq (k:Nat):unK k=un (dK k):=by cases k<;>rfl
def exK (k:Nat):PS→Rs Ex:=lvl (unK k) 5
def oneX (k:Nat)(s:PS):Rs Ex:=(exK k s).bind fun e s'=>endT e s'
def intT (m:Bool)(s:PS):Rs Int:=(kindT 2 s).bind fun t s'=>.ok (if m then -t.nn else t.nn) s'
def minus (s:PS):Bool×PS:=if s.hd.tx=[45] then(true,s.tk) else(false,s)
def whl (s:PS):Rs Int:=intT (minus s).1 (minus s).2
def neF (m:Bool)(f:Int):Int:=if m then(if f<9223372036854775808 then f+9223372036854775808 else f)else f
def numb (s:PS):Rs Ex:=
 if(minus s).2.hd.kd=3 then .ok (flX s.hd.ps (neF (minus s).1 (minus s).2.hd.ff)) (minus s).2.tk
 else(intT (minus s).1 (minus s).2).bind fun n s'=>.ok (inX s.hd.ps n) s'
def typN (s:PS):Rs Int:=
 if s.hd.tx=[98,111,111,108]then .ok 1 s.tk
 else if s.hd.tx=[105,110,116]then .ok 2 s.tk
 else(expT [102,108,111,97,116] s).bind fun _ s'=>.ok 3 s'
def inpW:List UInt8:=[105,110,112,117,116]
def varW:List UInt8:=[118,97,114]
def deT (ps:Int)(i:Bool)(nm:List UInt8)(ty:Int)(s:PS):Rs De:=
 if i∧s.hd.tx=[105,110] then
  (expT [91] s.tk).bind fun _ s=>(numb s).bind fun a s=>(expT [44] s).bind fun _ s=>(numb s).bind fun b s=>(expT [93] s).bind fun _ s=>(expT [59] s).bind fun _ s=>.ok ⟨ps,i,nm,ty,0,true,a,b⟩ s
 else if i=false∧s.hd.tx=[91] then
  (kindT 2 s.tk).bind fun t s=>(expT [93] s).bind fun _ s=>(expT [59] s).bind fun _ s=>.ok ⟨ps,i,nm,ty,t.nn,false,.no,.no⟩ s
 else(expT [59] s).bind fun _ s=>.ok ⟨ps,i,nm,ty,0,false,.no,.no⟩ s
def decl (s:PS):Rs De:=
 (kindT 1 s.tk).bind fun t s'=>(expT [58] s').bind fun _ s'=>(typN s').bind fun ty s'=>deT s.hd.ps (s.hd.tx == inpW) t.tx ty s'
def decls:Nat→List De→PS→Rs (List De)
 | 0,_,_=>.no 0 0
 | f+1,l,s=>
  if s.hd.tx=inpW∨s.hd.tx=varW then
   (if l.length=96 then .no 112 s.hd.ps else(decl s).bind fun d s'=>decls f (l++[d]) s')
  else .ok l s
def many (p:PS→Rs St):Nat→List St→PS→Rs (List St)
 | 0,_,_=>.no 0 0
 | f+1,l,s=>if s.hd.tx=[125]then .ok l s.tk else(p s).bind fun x s'=>many p f (l++[x]) s'
def blk (d:Option (PS→Rs St))(s:PS):Rs (List St):=
 if s.hd.tx=[123] then
  (match d with
  | none=>.no 111 s.hd.ps
  | some p=>many p (s.ts.length+1) [] s.tk)
 else bad s
def sl (n:Nat):Sl:=⟨none,n,n⟩
def asS (ps:Int)(nm:List UInt8)(l:List Ex)(e:Ex):St:=.mk ⟨1,ps,nm,sl l.length,0,0,sl 0,sl 0⟩ (fun i=>l.getD i .no) e (fun _=>.no) (fun _=>.no)
def ifS (ps:Int)(e:Ex)(t l:List St):St:=.mk ⟨2,ps,[],sl 0,0,0,sl t.length,sl l.length⟩ (fun _=>.no) e (fun i=>t.getD i .no) (fun i=>l.getD i .no)
def foS (ps:Int)(nm:List UInt8)(lo hi:Int)(t:List St):St:=.mk ⟨3,ps,nm,sl 0,lo,hi,sl t.length,sl 0⟩ (fun _=>.no) .no (fun i=>t.getD i .no) (fun _=>.no)
def ifW:List UInt8:=[105,102]
def forW:List UInt8:=[102,111,114]
def elseW:List UInt8:=[101,108,115,101]
def elsS (d:Option (PS→Rs St))(s:PS):Rs (List St):=
 if s.hd.tx=ifW then
  (match d with
  | none=>.no 111 s.hd.ps
  | some p=>(p s).bind fun x s'=>.ok [x] s')
 else blk d s
def stm (k:Nat)(d:Option (PS→Rs St))(s:PS):Rs St:=
 if s.hd.kd≠1∧s.hd.tx≠ifW∧s.hd.tx≠forW then bad s
 else if s.ns=200 then .no 112 s.hd.ps
 else
  let s1:PS:=⟨s.ts.tail,s.ns+1,s.nx⟩
  if s.hd.tx=ifW then
   (exK k s1).bind fun e s2=>(blk d s2).bind fun t s3=>
    if s3.hd.tx=elseW then(elsS d s3.tk).bind fun l s4=>.ok (ifS s.hd.ps e t l) s4 else .ok (ifS s.hd.ps e t []) s3
  else if s.hd.tx=forW then
   (kindT 1 s1).bind fun n s2=>(expT [61] s2).bind fun _ s3=>(whl s3).bind fun lo s4=>(expT [46,46] s4).bind fun _ s5=>(whl s5).bind fun hi s6=>(blk d s6).bind fun t s7=>.ok (foS s.hd.ps n.tx lo hi t) s7
  else
   (index (dK k) s1).bind fun l s2=>(expT [61] s2).bind fun _ s3=>(exK k s3).bind fun e s4=>(expT [59] s4).bind fun _ s5=>.ok (asS s.hd.ps s.hd.tx l e) s5
def stK:Nat→PS→Rs St
 | 0=>stm 0 none
 | k+1=>stm (k+1) (some (stK k))
def sK:Nat→Option (PS→Rs St)
 | 0=>none
 | k+1=>some (stK k)
theorem stK_eq (k:Nat):stK k=stm k (sK k):=by cases k<;>rfl
def prX (ticks:Int)(d:List De)(i s:List St):Pr:=⟨ticks,sl d.length,fun j=>d.getD j ⟨0,false,[],0,0,false,.no,.no⟩,sl i.length,fun j=>i.getD j .no,sl s.length,fun j=>s.getD j .no⟩
def ticksW:List UInt8:=[116,105,99,107,115]
def initW:List UInt8:=[105,110,105,116]
def stepW:List UInt8:=[115,116,101,112]
def prog (s:PS):Rs Pr:=
 (expT ticksW s).bind fun _ s=>(kindT 2 s).bind fun t s=>(expT [59] s).bind fun _ s=>(decls (s.ts.length+1) [] s).bind fun d s=>(expT initW s).bind fun _ s=>(blk (sK 24) s).bind fun i s=>(expT stepW s).bind fun _ s=>
  (blk (sK 24) s).bind fun b s=>endT (prX t.nn d i b) s
def resW:List (List UInt8):=kwS++twoS++oneS.map fun b=>[b]
structure Tg (t:Tk):Prop where
 ps0:0≤t.ps
 ps1:t.ps≤16384
 kd:t.kd=1∨t.kd=2∨t.kd=3∨t.kd=4∨t.kd=5
 tx:t.kd=1∨t.kd=2∨t.kd=3→t.tx ∉ resW
 nn0:0≤t.nn
 nn1:t.nn≤2147483647
 ff0:0≤t.ff
 ff1:t.ff<9223372036854775808
 len:t.tx.length≤16384
structure Te (t:Tk):Prop where
 ps0:0≤t.ps
 ps1:t.ps≤16384
 kd:t.kd=0
 tx:t.tx=[]
 nn:t.nn=0
 ff:t.ff=0
def Good:List Tk→Prop
 | []=>False
 | t::r=>(r=[]∧Te t)∨(Tg t∧Good r)
theorem Good.ne {l:List Tk}(h:Good l):l≠[]:=by
 cases l with
 | nil=>exact h.elim
 | cons t r=>exact fun e=>by cases e
theorem Good.pos {l:List Tk}(h:Good l):0<l.length:=List.length_pos_iff.2 h.ne
theorem Good.tail {l:List Tk}(h:Good l)(hk:(l.headD noT).kd≠0):Good l.tail:=by
 cases l with
 | nil=>exact h.elim
 | cons t r=>
  rcases h with⟨-,h⟩|⟨-,h⟩
  ·exact absurd h.kd hk
  ·exact h
theorem Good.kd {l:List Tk}(h:Good l)(hx:(l.headD noT).tx≠[]):(l.headD noT).kd≠0:=by
 cases l with
 | nil=>exact h.elim
 | cons t r=>
  rcases h with⟨-,h⟩|⟨h, -⟩
  ·exact absurd h.tx hx
  ·intro e
   have:=h.kd
   simp only[List.headD_cons]at e
   omega
theorem Good.tail' {l:List Tk}(h:Good l)(hx:(l.headD noT).tx≠[]):Good l.tail:=h.tail (h.kd hx)
structure Hd (t:Tk):Prop where
 ps0:0≤t.ps
 ps1:t.ps≤16384
 kd0:0≤t.kd
 kd1:t.kd≤5
 nn0:0≤t.nn
 nn1:t.nn≤2147483647
 ff0:0≤t.ff
 ff1:t.ff<9223372036854775808
 len:t.tx.length≤16384
theorem Good.hd {l:List Tk}(h:Good l):Hd (l.headD noT):=by
 cases l with
 | nil=>exact h.elim
 | cons t r=>
  rcases h with⟨-,h⟩|⟨h, -⟩
  ·exact⟨h.ps0,h.ps1,by simp[h.kd],by simp[h.kd],by simp[h.nn],by simp[h.nn],by simp[h.ff],by simp[h.ff],by simp[h.tx]⟩
  ·exact⟨h.ps0,h.ps1,by have:=h.kd;simp only[List.headD_cons];omega,by have:=h.kd;simp only[List.headD_cons];omega,h.nn0,h.nn1,h.ff0,h.ff1,h.len⟩
def Lf {α:Type}(n m:Nat)(r:Rs α):Prop:=∀a s,r=.ok a s→Good s.ts∧s.ts.length≤n∧m≤s.ns
theorem lf_no {α:Type}{n m:Nat}{e p:Int}:Lf n m (.no e p:Rs α):=fun _ _ h=>by cases h
theorem lf_bad {α:Type}{n m:Nat}{s:PS}:Lf n m (bad s:Rs α):=fun _ _ h=>by cases h
theorem lf_ok {α:Type}{n m:Nat}{a:α}{s:PS}(h:Good s.ts)(hn:s.ts.length≤n)(hm:m≤s.ns):Lf n m (.ok a s):=fun _ _ e=>by cases e;exact⟨h,hn,hm⟩
theorem Lf.mono {α:Type}{n m n' m':Nat}{r:Rs α}(h:Lf n m r)(hn:n≤n')(hm:m'≤m):Lf n' m' r:=fun a s e=>⟨(h a s e).1,Nat.le_trans (h a s e).2.1 hn,Nat.le_trans hm (h a s e).2.2⟩
theorem Lf.bind {α β:Type}{n m n' m':Nat}{r:Rs α}{f:α→PS→Rs β}(h:Lf n m r)(hf:∀a s,Good s.ts→s.ts.length≤n→m≤s.ns→Lf n' m' (f a s)):Lf n' m' (r.bind f):=by
 cases r with
 | no e p=>exact lf_no
 | ok a s=>exact hf a s (h a s rfl).1 (h a s rfl).2.1 (h a s rfl).2.2
theorem tk_len {s:PS}(h:Good s.ts):s.tk.ts.length+1=s.ts.length:=by
 have:=h.pos
 simp only[PS.tk,List.length_tail]
 omega
theorem lf_exp {x:List UInt8}{s:PS}(h:Good s.ts)(hx:x≠[]):Lf (s.ts.length-1) s.ns (expT x s):=by
 unfold expT
 split
 ·rename_i e
  have:=tk_len h
  exact lf_ok (h.tail' (by rw[←PS.hd,e];exact hx)) (by omega) (Nat.le_refl _)
 ·exact lf_bad
theorem lf_kind {k:Int}{s:PS}(h:Good s.ts)(hk:k≠0):Lf (s.ts.length-1) s.ns (kindT k s):=by
 unfold kindT
 split
 ·rename_i e
  have:=tk_len h
  exact lf_ok (h.tail (by rw[←PS.hd,e];exact hk)) (by omega) (Nat.le_refl _)
 ·exact lf_bad
theorem lf_whole {e:Ex}{s:PS}{n m:Nat}(h:Good s.ts)(hn:s.ts.length≤n)(hm:m≤s.ns):Lf n m (whole e s):=by
 unfold whole
 split
 ·exact lf_no
 ·exact lf_ok h hn hm
theorem sgO_ne {n:Nat}{x:List UInt8}(h:sgO n x≠0):x≠[]:=by
 rintro rfl
 exact h (by unfold sgO;(repeat' split)<;>first|rfl|(rename_i e;exact nomatch e))
def Rdx (p:PS→Rs Ex):Prop:=∀s:PS,Good s.ts→Lf (s.ts.length-1) s.ns (p s)
theorem tk_ns (s:PS):s.tk.ns=s.ns:=rfl
theorem lf_bin {n:Nat}{p:PS→Rs Ex}(hp:Rdx p){e:Ex}{s:PS}(h:Good s.ts)(hs:sgO n s.hd.tx≠0):Lf (s.ts.length-1) s.ns (binr n p e s):=by
 have g:Good s.tk.ts:=h.tail' (sgO_ne hs)
 have:=tk_len h
 exact(hp _ g).bind fun b s' g' hl hm=>lf_whole g' (by omega) hm
theorem lf_chain {n:Nat}{p:PS→Rs Ex}(hp:Rdx p):∀(f:Nat) (e:Ex) (s:PS),Good s.ts→Lf s.ts.length s.ns (chain n p f e s):=by
 intro f
 induction f with
 | zero=>exact fun _ _ _=>lf_no
 | succ f ih=>
  intro e s h
  rw[chain]
  split
  ·exact lf_ok h (Nat.le_refl _) (Nat.le_refl _)
  ·rename_i hs
   exact(lf_bin hp h hs).bind fun e' s' g' hl hm=>(ih e' s' g').mono (by omega) hm
theorem rdx_lvl {u:PS→Rs Ex}(hu:Rdx u):∀m,Rdx (lvl u m):=by
 intro m
 induction m with
 | zero=>exact hu
 | succ m ih=>
  intro s h
  rw[lvl]
  refine(ih s h).bind fun e s' g hl hm=>?_
  split
  ·split
   ·exact lf_ok g hl hm
   ·rename_i hs
    exact(lf_bin ih g hs).mono (by omega) hm
  ·exact(lf_chain ih _ _ _ g).mono hl hm
def RdO (d:Option (PS→Rs Ex)):Prop:=∀u,d=some u→Rdx u
theorem lf_within {d:Option (PS→Rs Ex)}(hd:RdO d){o c:List UInt8}(ho:o≠[])(hc:c≠[]){s:PS}(h:Good s.ts):Lf (s.ts.length-1) s.ns (within d o c s):=by
 unfold within
 split
 ·rename_i e
  have g:Good s.tk.ts:=h.tail' (by rw[←PS.hd,e];exact ho)
  have:=tk_len h
  cases d with
  | none=>exact lf_no
  | some u=>exact((rdx_lvl (hd u rfl) 5) _ g).bind fun e s' g' hl hm=>(lf_exp g' hc).bind fun _ s'' g'' hl' hm'=>lf_ok g'' (by omega) (Nat.le_trans hm hm')
 ·exact lf_bad
theorem lf_index {d:Option (PS→Rs Ex)}(hd:RdO d){s:PS}(h:Good s.ts):Lf s.ts.length s.ns (index d s):=by
 unfold index
 split
 ·exact(lf_within hd (by simp) (by simp) h).bind fun e s' g hl hm=>lf_ok g (by omega) hm
 ·exact lf_ok h (Nat.le_refl _) (Nat.le_refl _)
theorem atT_ne {s:PS}(h:Good s.ts)(ha:atT s.hd≠0):s.hd.kd≠0:=by
 intro e
 have ht:s.hd.tx=[]:=by
  apply Classical.byContradiction
  exact fun hx=>h.kd hx e
 exact ha (by simp[atT,e,ht])
theorem rd_atom {d:Option (PS→Rs Ex)}(hd:RdO d):Rdx (atom d):=by
 intro s h
 unfold atom
 split
 ·exact lf_within hd (by simp) (by simp) h
 ·split
  ·exact lf_bad
  ·rename_i h0
   have g:Good s.tk.ts:=h.tail (atT_ne h h0)
   have:=tk_len h
   split
   ·exact lf_whole g (by omega) (Nat.le_refl _)
   ·split
    ·exact lf_whole g (by omega) (Nat.le_refl _)
    ·split
     ·exact lf_whole g (by omega) (Nat.le_refl _)
     ·split
      ·exact(lf_index hd g).bind fun l s' g' hl hm=>lf_whole g' (by omega) hm
      ·exact(lf_within hd (by simp) (by simp) g).bind fun e s' g' hl hm=>lf_whole g' (by omega) hm
theorem unT_ne {x:List UInt8}(h:unT x≠0):x≠[]:=by
 rintro rfl
 exact h (by simp[unT])
theorem rd_un {d:Option (PS→Rs Ex)}(hd:RdO d):Rdx (un d):=by
 intro s h
 unfold un
 split
 ·exact rd_atom hd s h
 ·rename_i h0
  have g:Good s.tk.ts:=h.tail' (unT_ne h0)
  have:=tk_len h
  cases d with
  | none=>exact lf_no
  | some u=>exact(hd u rfl _ g).bind fun e s' g' hl hm=>lf_whole g' (by omega) hm
theorem rd_unK (k:Nat):Rdx (unK k):=by
 induction k with
 | zero=>exact rd_un fun u h=>by cases h
 | succ k ih=>exact rd_un fun u h=>by cases h;exact ih
theorem rd_dK (k:Nat):RdO (dK k):=by
 intro u h
 cases k with
 | zero=>cases h
 | succ k=>cases h;exact rd_unK k
theorem rd_exK (k:Nat):Rdx (exK k):=rdx_lvl (rd_unK k) 5
theorem lf_int {b:Bool}{s:PS}(h:Good s.ts):Lf (s.ts.length-1) s.ns (intT b s):=
 (lf_kind h (by decide)).bind fun _ _ g hl hm=>lf_ok g hl hm
theorem lf_whl {s:PS}(h:Good s.ts):Lf (s.ts.length-1) s.ns (whl s):=by
 unfold whl minus
 split
 ·rename_i e
  have g:Good s.tk.ts:=h.tail' (by rw[←PS.hd,e];simp)
  have:=tk_len h
  exact(lf_int g).mono (by omega) (Nat.le_refl _)
 ·exact lf_int h
def Rdy (p:PS→Rs St):Prop:=∀s:PS,Good s.ts→Lf (s.ts.length-1) (s.ns+1) (p s)
def RdS (d:Option (PS→Rs St)):Prop:=∀p,d=some p→Rdy p
theorem lf_many {p:PS→Rs St}(hp:Rdy p):∀(f:Nat) (l:List St) (s:PS),Good s.ts→Lf (s.ts.length-1) s.ns (many p f l s):=by
 intro f
 induction f with
 | zero=>exact fun _ _ _=>lf_no
 | succ f ih=>
  intro l s h
  rw[many]
  split
  ·rename_i e
   have:=tk_len h
   exact lf_ok (h.tail' (by rw[←PS.hd,e];simp)) (by omega) (Nat.le_refl _)
  ·exact(hp s h).bind fun x s' g hl hm=>(ih (l++[x]) s' g).mono (by omega) (by omega)
theorem lf_blk {d:Option (PS→Rs St)}(hd:RdS d){s:PS}(h:Good s.ts):Lf (s.ts.length-1) s.ns (blk d s):=by
 unfold blk
 split
 ·rename_i e
  have g:Good s.tk.ts:=h.tail' (by rw[←PS.hd,e];simp)
  have:=tk_len h
  cases d with
  | none=>exact lf_no
  | some p=>exact(lf_many (hd p rfl) _ [] _ g).mono (by omega) (Nat.le_refl _)
 ·exact lf_bad
theorem lf_els {d:Option (PS→Rs St)}(hd:RdS d){s:PS}(h:Good s.ts):Lf (s.ts.length-1) s.ns (elsS d s):=by
 unfold elsS
 split
 ·cases d with
  | none=>exact lf_no
  | some p=>exact(hd p rfl s h).bind fun x s' g hl hm=>lf_ok g hl (by omega)
 ·exact lf_blk hd h
theorem rd_stm (k:Nat){d:Option (PS→Rs St)}(hd:RdS d):Rdy (stm k d):=by
 intro s h
 unfold stm
 split
 ·exact lf_bad
 ·split
  ·exact lf_no
  ·rename_i h1 h2
   have hk:s.hd.kd≠0:=by
    by_cases c:s.hd.kd=1
    ·omega
    ·refine h.kd ?_
     intro e
     apply h1
     have e:s.hd.tx=[]:=e
     refine⟨c,?_,?_⟩<;>rw[e]<;>decide
   have g:Good s.tk.ts:=h.tail hk
   have hl:=tk_len h
   have g1:Good (⟨s.ts.tail,s.ns+1,s.nx⟩:PS).ts:=g
   have l1:(⟨s.ts.tail,s.ns+1,s.nx⟩:PS).ts.length+1=s.ts.length:=hl
   dsimp only
   generalize hs1:(⟨s.ts.tail,s.ns+1,s.nx⟩:PS)=s1 at *
   have n1:s.ns+1≤s1.ns:=by rw[←hs1];exact Nat.le_refl _
   split
   ·refine(rd_exK k s1 g1).bind fun e s2 g2 l2 m2=>(lf_blk hd g2).bind fun t s3 g3 l3 m3=>?_
    split
    ·rename_i e4
     have g4:Good s3.tk.ts:=g3.tail' (by rw[←PS.hd,e4];decide)
     have l4:=tk_len g3
     exact(lf_els hd g4).bind fun l s5 g5 l5 m5=>lf_ok g5 (by omega) (by have:=tk_ns s3;omega)
    ·exact lf_ok g3 (by omega) (by omega)
   ·split
    ·exact(lf_kind g1 (by decide)).bind fun n s2 g2 l2 m2=>(lf_exp g2 (by simp)).bind fun _ s3 g3 l3 m3=>(lf_whl g3).bind fun lo s4 g4 l4 m4=>(lf_exp g4 (by simp)).bind fun _ s5 g5 l5 m5=>(lf_whl g5).bind fun hi s6 g6 l6 m6=>(lf_blk hd g6).bind fun t s7 g7 l7 m7=>lf_ok g7 (by omega) (by omega)
    ·exact(lf_index (rd_dK k) g1).bind fun l s2 g2 l2 m2=>(lf_exp g2 (by simp)).bind fun _ s3 g3 l3 m3=>(rd_exK k s3 g3).bind fun e s4 g4 l4 m4=>(lf_exp g4 (by simp)).bind fun _ s5 g5 l5 m5=>lf_ok g5 (by omega) (by omega)
theorem rd_stK (k:Nat):Rdy (stK k):=by
 induction k with
 | zero=>exact rd_stm 0 fun u h=>by cases h
 | succ k ih=>exact rd_stm (k+1) fun u h=>by cases h;exact ih
theorem itoa_len {n:Int}(h0:-9223372036854775808≤n)(h1:n≤9223372036854775807):(Lib.itoa n).length≤21:=by
 have key:∀u:Nat,u<18446744073709551616→(Lib.decDigits u).length≤20:=fun u hu=>by
  rw[Lib.decDigits_length]
  by_cases h:1≤u
  ·have:=Lib.numDigits_eq u h hu
   split at this<;>omega
  ·obtain rfl:u=0:=by omega
   decide +kernel
 unfold Lib.itoa
 split
 ·have:=key n.natAbs (by omega)
  first
   | (simp only[List.length_cons];omega)
   | (simp only[List.length_append,List.length_cons,List.length_nil];omega)
 ·first
   | exact Nat.le_trans (key _ (by omega)) (by decide)
theorem prT_len {f:Int}(hf:Word f):(prT f).length≤30:=by
 by_cases hc:fC f<3
 ·obtain⟨h1, -,h2, -⟩:=prB_is hf hc
  rw[h1,List.length_append]
  have:(if fS f=true then[45] else[]:List UInt8).length≤1:=by split<;>decide
  omega
 ·unfold prT
  by_cases h4:fC f=4
  ·rw[if_pos h4];decide
  ·rw[if_neg h4]
   have:=cls_bd f
   rw[if_pos (show fC f=3 by omega)]
   cases fS f<;>decide
theorem brk_len (b:Bool)(l:List UInt8):(brk b l).length≤l.length+2:=by
 cases b<;>simp[brk]
theorem sign_len (op:Int):(signB op).length≤2:=by
 unfold signB
 repeat (split;decide)
 decide
def Tk.er (t:Tk):Tk:=⟨t.kd,0,t.tx,t.nn,t.ff⟩
def Lexd (l:List UInt8)(us:List Tk):Prop:=∀a:Nat,∃ts,Run (gp l) (a+gpN l) ts∧ts.map Tk.er=us
theorem lexd_nil:Lexd [] [noT]:=fun _=>⟨_,Run.fin _,rfl⟩
theorem gpN_tok {l:List UInt8}(h:gp l=l):gpN l=0:=by
 have:=gpN_add l
 rw[h]at this
 omega
theorem lexd_ws {b:UInt8}{l:List UInt8}{us:List Tk}(hb:isWs b=true)(h:Lexd l us):Lexd (b::l) us:=by
 have e:gp (b::l)=gp l:=by
  show gpB false (b::l)=gpB false l
  rw[gpB,if_pos hb]
 have e2:gpN (b::l)=gpN l+1:=by
  have h1:=gpN_add (b::l)
  have h2:=gpN_add l
  rw[e,List.length_cons]at h1
  omega
 intro a
 obtain⟨ts,R,er⟩:=h (a+1)
 refine⟨ts,?_,er⟩
 rw[e,e2,show a+(gpN l+1)=a+1+gpN l by omega]
 exact R
theorem gp_cons {c:UInt8}{z:List UInt8}(h1:isWs c=false)(h2:¬(c=47∧z.head? = some 47)):gp (c::z)=c::z:=by
 show gpB false (c::z)=_
 rw[gpB,if_neg (by simp[h1]),if_neg h2]
theorem lexd_tok {x l:List UInt8}{us:List Tk}{u:Tk}(hx:x≠[])(hg:gp (x++l)=x++l)(he:fiE (x++l)=0)(hn:fiN (x++l)=x.length)(ht:∀a:Int,(fiT (x++l) a).er=u)(h:Lexd l us):Lexd (x++l) (u::us):=fun a=>by
 obtain⟨ts,R,e⟩:=h (a+x.length)
 refine⟨fiT (x++l) (a:Int)::ts,?_,by rw[List.map_cons,ht,e]⟩
 rw[hg,gpN_tok hg,Nat.add_zero]
 refine .tok _ a ts (by simp[hx]) he ?_
 rw[hn,List.drop_left]
 exact R
theorem one_not {c:UInt8}(h:oneS.contains c=true):isWs c=false∧isAl c=false∧isDig c=false:=by
 have h:c∈oneS:=List.contains_iff_mem.1 h
 simp only[oneS,List.mem_cons,List.not_mem_nil,or_false]at h
 rcases h with rfl|rfl|rfl|rfl|rfl|rfl|rfl|rfl|rfl|rfl|rfl|rfl|rfl|rfl|rfl|rfl|rfl<;>decide
theorem two_not {c d:UInt8}(h:twoS.contains [c,d]=true):isWs c=false∧isAl c=false∧isDig c=false∧c≠47:=by
 have h:[c,d]∈twoS:=List.contains_iff_mem.1 h
 simp only[twoS,List.mem_cons,List.not_mem_nil,or_false,List.cons.injEq,and_true]at h
 rcases h with⟨rfl,rfl⟩|⟨rfl,rfl⟩|⟨rfl,rfl⟩|⟨rfl,rfl⟩|⟨rfl,rfl⟩|⟨rfl,rfl⟩|⟨rfl,rfl⟩<;>decide
theorem nm_non {c:UInt8}{l:List UInt8}(h:isAl c=false):nmL (c::l)=0:=by rw[nmL_cons,if_neg (by simp[h])]
theorem nu_non {c:UInt8}{l:List UInt8}(h:isDig c=false):nuL (c::l)=0:=by
 have:dgL (c::l)=0:=by unfold dgL;rw[List.takeWhile_cons,if_neg (by simp[h])];rfl
 unfold nuL
 rw[if_pos this]
theorem si_tok {z:List UInt8}{a:Int}(h1:nmL z=0)(h2:nuL z=0)(h3:siL z≠0):fiE z=0∧fiN z=siL z∧fiT z a=⟨5,a,z.take (siL z),0,0⟩:=by
 refine⟨?_,?_,?_⟩
 ·unfold fiE;rw[if_neg (by omega),if_neg (by omega),if_pos h3]
 ·unfold fiN;rw[if_neg (by omega),if_neg (by omega)]
 ·unfold fiT;rw[if_neg (by omega),if_neg (by omega)]
theorem lexd_s1 (c:UInt8){l:List UInt8}{us:List Tk}(hc:oneS.contains c=true)(hl:∀b,l.head? = some b→twoS.contains [c,b]=false∧¬(c=47∧b=47))(h:Lexd l us):Lexd (c::l) (⟨5,0,[c],0,0⟩::us):=by
 obtain⟨n1,n2,n3⟩:=one_not hc
 have s1:siL (c::l)=1:=by
  unfold siL
  rw[if_neg,si1_cons,if_pos hc]
  cases l with
  | nil=>simp[twoS]
  | cons b y=>simp only[List.take_succ_cons,List.take_zero,(hl b rfl).1];decide
 have K:=fun a=>si_tok (z:=c::l) (a:=a) (nm_non n2) (nu_non n3) (by omega)
 refine lexd_tok (x:=[c]) (by simp) (gp_cons n1 fun e=>(hl 47 e.2).2 ⟨e.1,rfl⟩) (K 0).1 ((K 0).2.1.trans s1) (fun a=>?_) h
 show(fiT (c::l) a).er=_
 rw[(K a).2.2,s1]
 rfl
theorem lexd_s2 (c d:UInt8){l:List UInt8}{us:List Tk}(hc:twoS.contains [c,d]=true)(h:Lexd l us):Lexd (c::d::l) (⟨5,0,[c,d],0,0⟩::us):=by
 obtain⟨n1,n2,n3,n4⟩:=two_not hc
 have s1:siL (c::d::l)=2:=by
  unfold siL
  rw[if_pos (by simpa using hc)]
 have K:=fun a=>si_tok (z:=c::d::l) (a:=a) (nm_non n2) (nu_non n3) (by omega)
 refine lexd_tok (x:=[c,d]) (by simp) (gp_cons n1 fun e=>n4 e.1) (K 0).1 ((K 0).2.1.trans s1) (fun a=>?_) h
 show(fiT (c::d::l) a).er=_
 rw[(K a).2.2,s1]
 rfl
def Stp (l:List UInt8):Prop:=∀b,l.head? = some b→isAn b=false∧b≠46∧b≠43∧b≠45
theorem stp_cons {b:UInt8}{l:List UInt8}(h:isAn b=false∧b≠46∧b≠43∧b≠45):Stp (b::l):=fun _ e=>by cases e;exact h
theorem nm_stop {x l:List UInt8}(hx:x≠[])(hl:Stp l):nmL (x++l)=nmL x:=by
 cases x with
 | nil=>exact absurd rfl hx
 | cons c r=>
  cases l with
  | nil=>rw[List.append_nil]
  | cons b y=>rw[List.cons_append,nmL_cons,nmL_cons,tw_blank isAn (hl b rfl).1 y r]
theorem an_not {b:UInt8}(h:isAn b=false):isAl b=false∧isDig b=false∧¬expB b:=by
 unfold isAn at h
 rw[Bool.or_eq_false_iff]at h
 refine⟨h.1,h.2,?_⟩
 rintro(rfl|rfl)
 ·exact absurd h.1 (by decide)
 ·exact absurd h.1 (by decide)
theorem nu_stop {x l:List UInt8}(hx:nuL x≠0)(hl:Stp l):nuL (x++l)=nuL x∧nuF (x++l)=nuF x:=by
 cases l with
 | nil=>rw[List.append_nil];exact⟨rfl,rfl⟩
 | cons b y=>
  obtain⟨b1,b2,b3,b4⟩:=hl b rfl
  obtain⟨-,b5,b6⟩:=an_not b1
  have le:nuL (x++b::y)≤x.length:=by
   refine Classical.byContradiction fun hc=>?_
   obtain⟨b',hb,h⟩:=num_in (x++b::y) x.length (by omega)
   have e:b=b':=by
    rw[List.getElem?_append_right (Nat.le_refl _),Nat.sub_self]at hb
    simpa using hb
   subst e
   rcases h with h|⟨h, -⟩|⟨-,h|⟨h, -⟩⟩
   ·rw[b5]at h;cases h
   ·exact b2 h
   ·exact b6 h
   ·rcases h with h|h
    ·exact b3 h
    ·exact b4 h
  have T:=nuL_take (x++b::y) x.length le
  rw[List.take_left]at T
  exact⟨T.1.symm,(T.2 (by rw[←T.1];exact hx)).symm⟩
theorem lexd_wd {x l:List UInt8}{us:List Tk}(hx:x≠[])(hn:nmL x=x.length)(h32:x.length≤32)(hl:Stp l)(h:Lexd l us):Lexd (x++l) (⟨if kwS.contains x then 4 else 1,0,x,0,0⟩::us):=by
 have e:=(nm_stop hx hl).trans hn
 have hp:x.length≠0:=fun e=>hx (List.eq_nil_of_length_eq_zero e)
 have al:∃c r,x=c::r∧isAl c=true:=by
  cases x with
  | nil=>exact absurd rfl hx
  | cons c r=>
   refine⟨c,r,rfl,?_⟩
   cases ha:isAl c with
   | true=>rfl
   | false=>rw[nm_non ha]at hn;exact absurd hn.symm hp
 obtain⟨c,r,ex,ha⟩:=al
 have cw:isWs c=false∧c≠47:=by
  constructor
  ·cases hw:isWs c with
   | false=>rfl
   | true=>rw[(ws_not hw).1]at ha;cases ha
  ·rintro rfl
   exact absurd ha (by decide)
 refine lexd_tok hx ?_ ?_ ?_ (fun a=>?_) h
 ·rw[ex]
  exact gp_cons cw.1 fun e=>cw.2 e.1
 ·unfold fiE;rw[e,if_pos hp,if_neg (by omega)]
 ·unfold fiN;rw[e,if_pos hp]
 ·unfold fiT;rw[e,if_pos hp,List.take_left];rfl
def Nmb (x:List UInt8)(t:Tk):Prop:=(∃c r,x=c::r∧isDig c=true)∧nuL x=x.length∧fiE x=0∧∀a:Int,(fiT x a).er=t
theorem lexd_nu {x l:List UInt8}{us:List Tk}{t:Tk}(hx:Nmb x t)(hl:Stp l)(h:Lexd l us):Lexd (x++l) (t::us):=by
 obtain⟨⟨c,r,ex,hc⟩,hn,he,ht⟩:=hx
 have hp:nuL x≠0:=by rw[hn,ex];simp
 obtain⟨s1,s2⟩:=nu_stop hp hl
 have m1:nmL x=0:=by rw[ex];exact nm_dig hc
 have m2:nmL (x++l)=0:=by rw[ex];exact nm_dig hc
 have tk:(x++l).take (nuL x)=x.take (nuL x):=by rw[hn,List.take_left,List.take_length]
 obtain⟨-,n2,n3, -⟩:=dig_not hc
 refine lexd_tok (by rw[ex];simp) ?_ ?_ ?_ (fun a=>?_) h
 ·rw[ex]
  exact gp_cons n2 fun e=>n3 e.1
 ·rw[←he]
  unfold fiE
  rw[m1,m2,s1,s2,tk]
  simp only[ne_eq,not_true_eq_false,if_false,if_pos hp]
 ·unfold fiN
  rw[m2,s1,if_neg (by omega),if_pos hp,hn]
 ·rw[←ht a]
  unfold fiT
  rw[m1,m2,s1,s2,tk]
  simp only[ne_eq,not_true_eq_false,if_false,if_pos hp]
theorem nmb_int {n:Int}(h0:0≤n)(h1:n≤2147483647):Nmb (Lib.itoa n) ⟨2,0,[],n,0⟩:=by
 have e:Lib.itoa n=Lib.decDigits n.toNat:=by unfold Lib.itoa;rw[if_neg (by omega)]
 have dg:=dec_digB n.toNat
 have dv:=(dec_dig n.toNat).2
 rw[e]
 have hl:(Lib.decDigits n.toNat).length≤400:=by
  have:=itoa_len (n:=n) (by omega) (by omega)
  rw[e]at this
  omega
 generalize Lib.decDigits n.toNat=x at *
 obtain⟨c,r,ec,hc⟩:=digB_head dg
 obtain⟨n1,n2⟩:=nu_digits dg
 have hp:=digB_pos dg
 have nm:nmL x=0:=by rw[ec];exact nm_dig hc
 have tv:dval (x.take (nuL x))=n:=by rw[n1,List.take_length,dv];omega
 refine⟨⟨c,r,ec,hc⟩,n1,?_,fun a=>?_⟩
 ·unfold fiE
  rw[if_neg (by omega),if_pos (by omega),if_neg (by omega),n2,if_neg (by decide),tv,if_pos h1]
 ·unfold fiT
  rw[if_neg (by omega),if_pos (by omega),n2,if_neg (by decide),tv]
  rfl
theorem nmb_flt {f:Int}(w1:Word f)(w2:fC f<3)(w3:fS f=false):Nmb (prT f) ⟨3,0,[],0,f⟩:=by
 obtain⟨p1, -,p3,p4,p5⟩:=prB_is w1 w2
 have w4:fAb f=f:=by
  unfold fAb
  split
  ·rfl
  ·unfold fS at w3
   rw[decide_eq_false_iff_not]at w3
   have:=w1.1
   omega
 rw[w3,if_neg (by decide),List.nil_append]at p1
 rw[w4]at p4
 have S:nuL (prB f)=(prB f).length∧nuF (prB f)=true∧∃c r,prB f=c::r∧isDig c=true:=by
  by_cases hz:fC f=0
  ·have e2:prB f=[48,46,48]:=by unfold prB;rw[if_pos hz]
   rw[e2]
   exact⟨by decide,by decide,48,[46,48],rfl,by decide⟩
  ·have e2:prB f=loT (dgD f) (dgQ f):=by unfold prB;rw[if_neg hz]
   rw[e2]
   exact nu_lo (dg_known w1 (by have:=cls_bd f;omega)).1
 rw[p1]
 obtain⟨n1,n2,c,r,ec,hc⟩:=S
 have nm:nmL (prB f)=0:=by rw[ec];exact nm_dig hc
 have hp:1≤(prB f).length:=by rw[ec];simp
 have tv:(prB f).take (nuL (prB f))=prB f:=by rw[n1,List.take_length]
 refine⟨⟨c,r,ec,hc⟩,n1,?_,fun a=>?_⟩
 ·unfold fiE
  rw[if_neg (by omega),if_pos (by omega),if_neg (by omega),n2,if_pos rfl,tv,if_pos p5]
 ·unfold fiT
  rw[if_neg (by omega),if_pos (by omega),n2,if_pos rfl,tv,p4]
  rfl
theorem fin_of {f:Int}(h0:0≤f)(h1:f<9218868437227405312):Word f∧fC f<3∧fS f=false:=by
 have hw:Word f:=⟨h0,by omega⟩
 refine⟨hw,?_,?_⟩
 ·have:=(not_congr (cls_inf h0 (by omega))).2 (by omega)
  have:=cls_bd f
  have hn:¬fC f=4:=by rw[nan_iff hw];omega
  omega
 ·unfold fS
  rw[decide_eq_false]
  omega
def tSg (x:List UInt8):Tk:=⟨5,0,x,0,0⟩
def tWd (x:List UInt8):Tk:=⟨4,0,x,0,0⟩
def tNm (x:List UInt8):Tk:=⟨1,0,x,0,0⟩
def tIn (n:Int):Tk:=⟨2,0,[],n,0⟩
def tFl (f:Int):Tk:=⟨3,0,[],0,f⟩
def brkK (b:Bool)(l:List Tk):List Tk:=if b then tSg [40]::(l++[tSg [41]])else l
def nameK (nm:List UInt8)(n:Nat)(a:List Tk):List Tk:=tNm nm::(if 0<n then tSg [91]::(a++[tSg [93]]) else[])
def headK (h:EH)(a0 s0 s1:List Tk):List Tk:=
 if h.op=1 then[tWd (if h.bo then[116,114,117,101] else[102,97,108,115,101])]
 else if h.op=2 then[tIn h.it]
 else if h.op=3 then[tFl h.fl]
 else if h.op=4 then nameK h.nm h.s.n a0
 else if h.op=19 then tWd [105,110,116]::tSg [40]::(a0++[tSg [41]])
 else if h.op=20 then tWd [102,108,111,97,116]::tSg [40]::(a0++[tSg [41]])
 else if h.op=21 then tWd [97,98,115]::tSg [40]::(a0++[tSg [41]])
 else if h.op=17 then tSg [45]::s0
 else if h.op=18 then tSg [33]::s0
 else if opBin h.op then s0++tSg (signB h.op)::s1
 else[]
def Ex.tks:Ex→List Tk
 | .no=>[]
 | .mk h k=>headK h (if 0<h.s.n then(k 0).tks else[]) (if 0<h.s.n then brkK (k 0).bin (k 0).tks else[]) (if 1<h.s.n then brkK (k 1).bin (k 1).tks else[])
theorem Ex.tks_eq (e:Ex):e.tks=headK e.h (if 0<e.h.s.n then(e.k 0).tks else[]) (if 0<e.h.s.n then brkK (e.k 0).bin (e.k 0).tks else[]) (if 1<e.h.s.n then brkK (e.k 1).bin (e.k 1).tks else[]):=by
 cases e<;>rfl
structure NmOk (x:List UInt8):Prop where
 ne:x≠[]
 nm:nmL x=x.length
 le:x.length≤32
 kw:kwS.contains x=false
inductive Knd (h:EH):Prop where
 | bin (h0:5≤h.op) (h1:h.op≤16) (hn:h.s.n=2)
 | neg (h0:h.op=17∨h.op=18) (hn:h.s.n=1)
 | fn (h0:h.op=19∨h.op=20∨h.op=21) (hn:h.s.n=1)
 | nam (h0:h.op=4) (hn:h.s.n≤1) (hm:NmOk h.nm)
 | int (h0:h.op=2) (hn:h.s.n=0) (h1:0≤h.it) (h2:h.it≤2147483647)
 | flt (h0:h.op=3) (hn:h.s.n=0) (h1:0≤h.fl) (h2:h.fl<9218868437227405312)
 | boo (h0:h.op=1) (hn:h.s.n=0)
def Ex.pl:Ex→Prop
 | .no=>False
 | .mk h k=>Knd h∧∀i,i<h.s.n→(k i).pl
theorem Ex.pl.hd {e:Ex}(h:e.pl):Knd e.h:=by
 cases e with
 | no=>exact h.elim
 | mk h' k=>exact h.1
theorem Ex.pl.ki {e:Ex}(h:e.pl){i:Nat}(hi:i<e.h.s.n):(e.k i).pl:=by
 cases e with
 | no=>exact h.elim
 | mk h' k=>exact h.2 i hi
def bareH (h:EH):EH:=⟨h.op,0,if h.op=1 then h.bo else false,if h.op=2 then h.it else 0,if h.op=3 then h.fl else 0,if h.op=4 then h.nm else[],h.s⟩
def Ex.bare:Ex→Ex
 | .no=>.no
 | .mk h k=>.mk (bareH h) fun i=>(k i).bare
theorem Ex.bare_h (e:Ex):e.bare.h=bareH e.h:=by cases e<;>rfl
theorem Ex.bare_k (e:Ex)(i:Nat):e.bare.k i=(e.k i).bare:=by cases e<;>rfl
theorem dec_dig1 {n:Int}(h0:0≤n):∃c r,Lib.itoa n=c::r∧isDig c=true:=by
 have e:Lib.itoa n=Lib.decDigits n.toNat:=by unfold Lib.itoa;rw[if_neg (by omega)]
 rw[e]
 exact digB_head (dec_digB _)
theorem al_61 {c:UInt8}(h:isAl c=true∨isDig c=true):c≠61:=by
 rintro rfl
 rcases h with h|h
 ·exact absurd h (by decide)
 ·exact absurd h (by decide)
theorem nm_head {x:List UInt8}(h:NmOk x):∃c r,x=c::r∧isAl c=true:=by
 cases x with
 | nil=>exact absurd rfl h.ne
 | cons c r=>
  refine⟨c,r,rfl,?_⟩
  cases ha:isAl c with
  | true=>rfl
  | false=>
   have:=h.nm
   rw[nm_non ha]at this
   cases this
theorem txt_head (e:Ex):e.pl→∃c r,e.txt prT=c::r∧c≠61:=by
 induction e using Ex.ind with
 | H e ih=>
  intro hp
  rw[Ex.txt_eq]
  unfold headT
  cases hp.hd with
  | bin h0 h1 hn=>
   rw[if_neg (by omega),if_neg (by omega),if_neg (by omega),if_neg (by omega),if_neg (by omega),if_neg (by omega),if_neg (by omega),if_neg (by omega),if_neg (by omega),if_pos (by unfold opBin;exact decide_eq_true ⟨h0,h1⟩),if_pos (by omega)]
   obtain⟨c,r,e1,h2⟩:=ih 0 (by omega) (hp.ki (by omega))
   unfold brk
   split
   ·exact⟨40,_,rfl,by decide⟩
   ·rw[e1];exact⟨c,_,rfl,h2⟩
  | neg h0 hn=>
   rw[if_neg (by omega),if_neg (by omega),if_neg (by omega),if_neg (by omega),if_neg (by omega),if_neg (by omega),if_neg (by omega)]
   split
   ·exact⟨45,_,rfl,by decide⟩
   ·rw[if_pos (by omega)];exact⟨33,_,rfl,by decide⟩
  | fn h0 hn=>
   rw[if_neg (by omega),if_neg (by omega),if_neg (by omega),if_neg (by omega)]
   split
   ·exact⟨105,_,rfl,by decide⟩
   ·split
    ·exact⟨102,_,rfl,by decide⟩
    ·rw[if_pos (by omega)];exact⟨97,_,rfl,by decide⟩
  | nam h0 hn hm=>
   rw[if_neg (by omega),if_neg (by omega),if_neg (by omega),if_pos h0]
   obtain⟨c,r,e1,h2⟩:=nm_head hm
   unfold nameT
   rw[e1]
   exact⟨c,_,rfl,al_61 (.inl h2)⟩
  | int h0 hn h1 h2=>
   rw[if_neg (by omega),if_pos h0]
   obtain⟨c,r,e1,h3⟩:=dec_dig1 h1
   exact⟨c,r,e1,al_61 (.inr h3)⟩
  | flt h0 hn h1 h2=>
   rw[if_neg (by omega),if_neg (by omega),if_pos h0]
   obtain⟨f1,f2,f3⟩:=fin_of h1 h2
   obtain⟨⟨c,r,e1,h3⟩, -⟩:=nmb_flt f1 f2 f3
   exact⟨c,r,e1,al_61 (.inr h3)⟩
  | boo h0 hn=>
   rw[if_pos h0]
   split
   ·exact⟨116,_,rfl,by decide⟩
   ·exact⟨102,_,rfl,by decide⟩
theorem lexd_kw (x:List UInt8)(hk:kwS.contains x=true){l:List UInt8}{us:List Tk}(hl:Stp l)(h:Lexd l us):Lexd (x++l) (tWd x::us):=by
 have hx:x≠[]∧nmL x=x.length∧x.length≤32:=by
  have h:x∈kwS:=List.contains_iff_mem.1 hk
  simp only[kwS,List.mem_cons,List.not_mem_nil,or_false]at h
  rcases h with rfl|rfl|rfl|rfl|rfl|rfl|rfl|rfl|rfl|rfl|rfl|rfl|rfl|rfl|rfl<;>decide
 have:=lexd_wd hx.1 hx.2.1 hx.2.2 hl h
 rw[if_pos hk]at this
 exact this
theorem lexd_nm {x:List UInt8}(hx:NmOk x){l:List UInt8}{us:List Tk}(hl:Stp l)(h:Lexd l us):Lexd (x++l) (tNm x::us):=by
 have:=lexd_wd hx.ne hx.nm hx.le hl h
 rw[if_neg (by rw[hx.kw];decide)]at this
 exact this
theorem lexd_sg (c:UInt8)(hc:oneS.contains c=true)(h2:∀b,twoS.contains [c,b]=false)(h3:c≠47){l:List UInt8}{us:List Tk}(h:Lexd l us):Lexd (c::l) (tSg [c]::us):=
 lexd_s1 c hc (fun b _=>⟨h2 b,fun e=>h3 e.1⟩) h
theorem two_no {c:UInt8}(h:c≠61∧c≠33∧c≠60∧c≠62∧c≠38∧c≠124∧c≠46)(b:UInt8):twoS.contains [c,b]=false:=by
 cases e:twoS.contains [c,b] with
 | false=>rfl
 | true=>
  have e:[c,b]∈twoS:=List.contains_iff_mem.1 e
  simp only[twoS,List.mem_cons,List.not_mem_nil,or_false,List.cons.injEq,and_true]at e
  obtain⟨h1,h2,h3,h4,h5,h6,h7⟩:=h
  rcases e with⟨e, -⟩|⟨e, -⟩|⟨e, -⟩|⟨e, -⟩|⟨e, -⟩|⟨e, -⟩|⟨e, -⟩<;>contradiction
theorem lexd_plain (c:UInt8)(hc:oneS.contains c=true)(h:c≠61∧c≠33∧c≠60∧c≠62∧c≠38∧c≠124∧c≠46∧c≠47){l:List UInt8}{us:List Tk}(hl:Lexd l us):Lexd (c::l) (tSg [c]::us):=
 lexd_sg c hc (two_no ⟨h.1,h.2.1,h.2.2.1,h.2.2.2.1,h.2.2.2.2.1,h.2.2.2.2.2.1,h.2.2.2.2.2.2.1⟩) h.2.2.2.2.2.2.2 hl
theorem lexd_op {op:Int}(h0:5≤op)(h1:op≤16){l:List UInt8}{us:List Tk}(h:Lexd l us):Lexd (signB op++32::l) (tSg (signB op)::us):=by
 have hw:=lexd_ws (b:=32) (by decide) h
 have K1:∀c,oneS.contains c=true→twoS.contains [c,32]=false→Lexd (c::32::l) (tSg [c]::us):=fun c hc h2=>lexd_s1 c hc (fun b hb=>by cases hb;exact⟨h2,fun e=>absurd e.2 (by decide)⟩) hw
 have K2:∀c d,twoS.contains [c,d]=true→Lexd (c::d::32::l) (tSg [c,d]::us):=fun c d hc=>lexd_s2 c d hc hw
 have:op=5∨op=6∨op=7∨op=8∨op=9∨op=10∨op=11∨op=12∨op=13∨op=14∨op=15∨op=16:=by omega
 rcases this with rfl|rfl|rfl|rfl|rfl|rfl|rfl|rfl|rfl|rfl|rfl|rfl
 ·exact K1 43 (by decide) (by decide)
 ·exact K1 45 (by decide) (by decide)
 ·exact K1 42 (by decide) (by decide)
 ·exact K1 47 (by decide) (by decide)
 ·exact K1 60 (by decide) (by decide)
 ·exact K2 60 61 (by decide)
 ·exact K2 61 61 (by decide)
 ·exact K2 33 61 (by decide)
 ·exact K1 62 (by decide) (by decide)
 ·exact K2 62 61 (by decide)
 ·exact K2 38 38 (by decide)
 ·exact K2 124 124 (by decide)
theorem stp_41 (l:List UInt8):Stp (41::l):=stp_cons (by decide)
theorem stp_93 (l:List UInt8):Stp (93::l):=stp_cons (by decide)
theorem stp_32 (l:List UInt8):Stp (32::l):=stp_cons (by decide)
theorem stp_40 (l:List UInt8):Stp (40::l):=stp_cons (by decide)
theorem stp_91 (l:List UInt8):Stp (91::l):=stp_cons (by decide)
def LxE (e:Ex):Prop:=∀(l:List UInt8) (us:List Tk),Stp l→Lexd l us→Lexd (e.txt prT++l) (e.tks++us)
theorem lexd_brk {e:Ex}(h:LxE e)(b:Bool){l:List UInt8}{us:List Tk}(hl:Stp l)(hu:Lexd l us):Lexd (brk b (e.txt prT)++l) (brkK b e.tks++us):=by
 cases b with
 | false=>exact h l us hl hu
 | true=>
  have h1:=lexd_plain 41 (by decide) (by decide) hu
  have h2:=h _ _ (stp_41 l) h1
  have h3:=lexd_plain 40 (by decide) (by decide) h2
  simpa [brk,brkK] using h3
theorem lexd_in {e:Ex}(h:LxE e)(o c:UInt8)(ho:oneS.contains o=true∧o≠61∧o≠33∧o≠60∧o≠62∧o≠38∧o≠124∧o≠46∧o≠47)(hc:oneS.contains c=true∧c≠61∧c≠33∧c≠60∧c≠62∧c≠38∧c≠124∧c≠46∧c≠47)(hs:∀l,Stp (c::l)){l:List UInt8}{us:List Tk}(hu:Lexd l us) :
  Lexd (o::(e.txt prT++c::l)) (tSg [o]::(e.tks++tSg [c]::us)):=
 lexd_plain o ho.1 ho.2 (h _ _ (hs l) (lexd_plain c hc.1 hc.2 hu))
theorem lexd_ex (e:Ex):e.pl→LxE e:=by
 induction e using Ex.ind with
 | H e ih=>
  intro hp l us hl hu
  rw[Ex.txt_eq,Ex.tks_eq]
  unfold headT headK
  cases hp.hd with
  | bin h0 h1 hn=>
   have ob:opBin e.h.op=true:=by unfold opBin;exact decide_eq_true ⟨h0,h1⟩
   have i0:=ih 0 (by omega) (hp.ki (by omega))
   have i1:=ih 1 (by omega) (hp.ki (by omega))
   repeat rw[if_neg (show ¬e.h.op=_ by omega),if_neg (show ¬e.h.op=_ by omega)]
   rw[if_pos ob,if_pos ob,if_pos (show 0<e.h.s.n by omega),if_pos (show 0<e.h.s.n by omega),if_pos (show 1<e.h.s.n by omega),if_pos (show 1<e.h.s.n by omega)]
   have h3:=lexd_brk i0 (e.k 0).bin (stp_32 _) (lexd_ws (b:=32) (by decide) (lexd_op h0 h1 (lexd_brk i1 (e.k 1).bin hl hu)))
   simpa using h3
  | neg h0 hn=>
   have i0:=ih 0 (by omega) (hp.ki (by omega))
   obtain⟨c,r,e1,h2⟩:=txt_head _ (hp.ki (show 0<e.h.s.n by omega))
   have h3:=lexd_brk i0 (e.k 0).bin hl hu
   simp only[if_pos (show 0<e.h.s.n by omega)]
   have e2:∀b,(brk (e.k 0).bin ((e.k 0).txt prT)++l).head? = some b→b≠61:=fun b hb=>by
    unfold brk at hb
    split at hb
    ·cases hb;decide
    ·rw[e1]at hb;cases hb;exact h2
   rcases h0 with h0|h0
   ·simp only[h0]
    exact lexd_plain 45 (by decide) (by decide) h3
   ·simp only[h0]
    refine lexd_s1 33 (by decide) (fun b hb=>⟨?_,fun e=>absurd e.1 (by decide)⟩) h3
    have:=e2 b hb
    cases e:twoS.contains [33,b] with
    | false=>rfl
    | true=>
     have e:[33,b]∈twoS:=List.contains_iff_mem.1 e
     simp[twoS]at e
     exact absurd e this
  | fn h0 hn=>
   have i0:=ih 0 (by omega) (hp.ki (by omega))
   have h3:=lexd_in i0 40 41 (by decide) (by decide) stp_41 hu
   simp only[if_pos (show 0<e.h.s.n by omega)]
   rcases h0 with h0|h0|h0
   ·simp only[h0]
    have:=lexd_kw [105,110,116] (by decide) (stp_40 _) h3
    simpa using this
   ·simp only[h0]
    have:=lexd_kw [102,108,111,97,116] (by decide) (stp_40 _) h3
    simpa using this
   ·simp only[h0]
    have:=lexd_kw [97,98,115] (by decide) (stp_40 _) h3
    simpa using this
  | nam h0 hn hm=>
   simp only[h0]
   show Lexd (nameT e.h.nm e.h.s.n _++l) (nameK e.h.nm e.h.s.n _++us)
   unfold nameT nameK
   by_cases c:0<e.h.s.n
   ·have i0:=ih 0 c (hp.ki c)
    have h3:=lexd_in i0 91 93 (by decide) (by decide) stp_93 hu
    have:=lexd_nm hm (stp_91 _) h3
    simp only[if_pos c]
    simpa using this
   ·simp only[if_neg c]
    have:=lexd_nm hm hl hu
    simpa using this
  | int h0 hn h1 h2=>
   simp only[h0]
   exact lexd_nu (nmb_int h1 h2) hl hu
  | flt h0 hn h1 h2=>
   obtain⟨f1,f2,f3⟩:=fin_of h1 h2
   simp only[h0]
   exact lexd_nu (nmb_flt f1 f2 f3) hl hu
  | boo h0 hn=>
   simp only[h0]
   cases e.h.bo with
   | true=>exact lexd_kw [116,114,117,101] (by decide) hl hu
   | false=>exact lexd_kw [102,97,108,115,101] (by decide) hl hu
end Go.Proofs.YthmlhkllbichgaaGreatDoor
