/-
  Whatever program is handed in, CheckChecks answers true. (part 15 of 38) Conditions: none beside what the card ties.
-/
import Derived.Shelf.Strings.SlTrimAscii
import Derived.Test.YtkbicfffokegeaaGreatDoorCan
namespace Go.Proofs.YtkbicfffokegeaaGreatDoor
set_option maxHeartbeats 16000000
open Go.RowKit
set_option maxRecDepth 100000
def alN (n:Int):Bool:=(decide (97≤n) && decide (n≤122)) || (decide (65≤n) && decide (n≤90)) || decide (n=95)
def dgN (n:Int):Bool:=decide (48≤n) && decide (n≤57)
theorem rD (b:UInt8):alN (b.toNat:Int)=kC b:=by
 unfold alN kC;rw[Bool.eq_iff_iff];simp only[Bool.or_eq_true,Bool.and_eq_true,decide_eq_true_eq];omega
theorem qV (b:UInt8):dgN (b.toNat:Int)=bT b:=by
 unfold dgN bT;rw[Bool.eq_iff_iff];simp only[Bool.and_eq_true,decide_eq_true_eq];omega
theorem aCo {n:Nat}(h:128≤n):alN (n:Int)=false:=by
 unfold alN;rw[Bool.eq_false_iff];simp only[ne_eq,Bool.or_eq_true,Bool.and_eq_true,decide_eq_true_eq];omega
theorem xA {n:Nat}(h:128≤n):dgN (n:Int)=false:=by
 unfold dgN;rw[Bool.eq_false_iff];simp only[ne_eq,Bool.and_eq_true,decide_eq_true_eq];omega
theorem jC (n:Int)(w:World):Calls Tryz.prog 52 #[.int .i32 n] w fun e w'=>e=.returned (.bool (dgN n))∧w=w':=by
 by_cases h1:48≤n
 ·have F:Hid (decide (n≤57)=dgN n):=by show _=_;unfold dgN;rw[decide_eq_true h1];rfl
  go_enter Tryz.func52,Tryz.ntmps52;go_wp2_with fail;go_ret;exact⟨bD F.out,rfl⟩
 ·have F:Hid (false=dgN n):=by show _=_;unfold dgN;rw[decide_eq_false h1];rfl
  go_enter Tryz.func52,Tryz.ntmps52;go_wp2_with fail;go_ret;exact⟨bD F.out,rfl⟩
theorem oU (n:Int)(w:World):Calls Tryz.prog 51 #[.int .i32 n] w fun e w'=>e=.returned (.bool (alN n))∧w=w':=by
 by_cases h1:97≤n
 ·by_cases h2:n≤122
  ·have F:Hid (true=alN n):=by show _=_;unfold alN;rw[decide_eq_true h1,decide_eq_true h2];rfl
   go_enter Tryz.func51,Tryz.ntmps51;go_wp2_with fail;go_ret;exact⟨bD F.out,rfl⟩
  ·have h3:65≤n:=by omega
   have h4:¬n≤90:=by omega
   have h5:(n == 95)=false:=by rw[beq_eq_false_iff_ne];omega
   have F:Hid (false=alN n):=by show _=_;unfold alN;rw[decide_eq_true h1,decide_eq_false h2,decide_eq_true h3,decide_eq_false h4,decide_eq_false (by omega)];rfl
   go_enter Tryz.func51,Tryz.ntmps51;go_wp2_with fail;go_ret;exact⟨bD F.out,rfl⟩
 ·by_cases h3:65≤n
  ·by_cases h4:n≤90
   ·have F:Hid (true=alN n):=by show _=_;unfold alN;rw[decide_eq_false h1,decide_eq_true h3,decide_eq_true h4];rfl
    go_enter Tryz.func51,Tryz.ntmps51;go_wp2_with fail;go_ret;exact⟨bD F.out,rfl⟩
   ·have F:Hid ((n == 95)=alN n):=by show _=_;unfold alN;rw[decide_eq_false h1,decide_eq_true h3,decide_eq_false h4];rw[Bool.eq_iff_iff];simp
    go_enter Tryz.func51,Tryz.ntmps51;go_wp2_with fail;go_ret;exact⟨bD F.out,rfl⟩
  ·have F:Hid ((n == 95)=alN n):=by show _=_;unfold alN;rw[decide_eq_false h1,decide_eq_false h3];rw[Bool.eq_iff_iff];simp
   go_enter Tryz.func51,Tryz.ntmps51;go_wp2_with fail;go_ret;exact⟨bD F.out,rfl⟩
theorem aBi (p:UInt8→Bool):∀(l:List UInt8) (k:Nat),(l.take k).all p=true→k≤l.length→(∀b,l[k]? = some b→p b=false)→(l.takeWhile p).length=k
 | [],k,_,h,_=>by simp at h;simp[h]
 | b::r,0,_,_,h=>by rw[List.takeWhile_cons,if_neg (by rw[h b rfl];decide)];rfl
 | b::r,k+1,h1,h2,h3=>by
  rw[List.take_succ_cons,List.all_cons,Bool.and_eq_true]at h1;rw[List.takeWhile_cons,if_pos h1.1,List.length_cons,aBi p r k h1.2 (by simpa using h2) (fun c hc=>h3 c hc)]
theorem uV (s:ByteArray)(k:Nat)(h:k<s.size):s.data.toList[k]? = some s[k]:=by
 have:k<s.data.toList.length:=by rw[←Lib.size_eq];exact h
 rw[List.getElem?_eq_getElem this];rfl
theorem aIO (s:ByteArray)(k:Nat)(h:¬k<s.size)(b:UInt8):s.data.toList[k]? = some b→False:=by
 rw[List.getElem?_eq_none (by rw[←Lib.size_eq];omega)];exact fun h=>by cases h
theorem kE (s:ByteArray)(w:World) :
  Calls Tryz.prog 144 #[.string s] w fun e w'=>e=.returned (.int .i64 (dgL s.data.toList))∧Below w.heap.size w w':=by
 go_enter Tryz.func144,Tryz.ntmps144;go_wp2_with fail
 go_loopw [3] (fun _ wr=>∃k:Nat,wr=w.iter s k∧k≤s.size∧Hid ((s.data.toList.take k).all bT=true)) (fun _ wr=>s.size-wr.iterPos w.heap.size)
 case atStart=>exact⟨0,rfl,Nat.zero_le _,by show _=_;simp⟩
 case round=>
  obtain⟨k,rfl,hk,H⟩:=hrel
  by_cases hlt:k<s.size
  ·have B:=uV s k hlt
   by_cases ha:(s[k]'hlt).toNat<128
   ·have hnx:∀ty,(Instr.next (.pointer (some ⟨w.heap.size,0,none⟩)) true ty).run Tryz.prog (w.iter s k)=_:=fun ty=>run_next_ascii w s k ty hlt ha
    have C:=Hj fun w=>jC ((s[k]'hlt).toNat:Int) w;rw[qV]at C;have hts:=iB s k hlt
    by_cases hd:bT (s[k]'hlt)=true
    ·have H2:Hid ((s.data.toList.take (k+1)).all bT=true):=by
      show _=_;rw[hts,List.all_append,H.out]
      simp[hd]
     rw[hd]at C;clear B ha hts hd H;go_wp2_with fail;refine(C.out _).mono ?_;rintro e w' ⟨rfl,rfl⟩;go_wp2_with fail
     go_roundw
     case rel=>exact⟨k+1,rfl,by omega,H2⟩
     case measure=>simp;omega
    ·have hd':bT (s[k]'hlt)=false:=by simpa using hd
     have F:Hid ((k:Int)=(dgL s.data.toList:Int)):=by
      show _=_;unfold dgL;rw[aBi bT _ k H.out (by rw[←Lib.size_eq];omega) (fun b hb=>by rw[B]at hb;obtain rfl:=Option.some.inj hb;exact hd')]
     rw[hd']at C;clear B ha hts hd hd' H;go_wp2_with fail;refine(C.out _).mono ?_;rintro e w' ⟨rfl,rfl⟩;go_wp2_with fail;go_ret;exact⟨aW F.out,aI (Below.refl _ _) _⟩
   ·have hnx:∀ty,(Instr.next (.pointer (some ⟨w.heap.size,0,none⟩)) true ty).run Tryz.prog (w.iter s k)=_:=fun ty=>run_next_any w s k ty hlt
    have hi:=decode_high s k hlt (by omega);have C:=Hj fun w=>jC ((Utf8.decode s k).1:Int) w;rw[xA hi.1]at C
    have F:Hid ((k:Int)=(dgL s.data.toList:Int)):=by
     show _=_;unfold dgL;rw[aBi bT _ k H.out (by rw[←Lib.size_eq];omega) (fun b hb=>by rw[B]at hb;obtain rfl:=Option.some.inj hb;unfold bT;rw[decide_eq_false (p:=_≤57) (by omega),Bool.and_false])]
    clear B ha hi H;go_wp2_with fail;refine(C.out _).mono ?_;rintro e w' ⟨rfl,rfl⟩;go_wp2_with fail;go_ret;exact⟨aW F.out,aI (Below.refl _ _) _⟩
  ·have hnx:∀ty,(Instr.next (.pointer (some ⟨w.heap.size,0,none⟩)) true ty).run Tryz.prog (w.iter s k)=_:=fun ty=>run_next_end w s k ty hlt
   have F:Hid ((s.size:Int)=(dgL s.data.toList:Int)):=by
    show _=_;unfold dgL;rw[aBi bT _ k H.out (by rw[←Lib.size_eq];omega) (fun b hb=>(aIO s k hlt b hb).elim)];omega
   clear H;go_wp2_with fail;go_ret;exact⟨aW F.out,aI (Below.refl _ _) _⟩
theorem aHB {l:List UInt8}{k:Nat}(h1:∀b,l[0]? = some b→kC b=true)(h2:(l.take k).all iK=true)(h3:k≤l.length)(h4:∀b,l[k]? = some b→iK b=false)(h5:1≤l.length):nmL l=k:=by
 cases l with
 | nil=>simp at h5
 | cons b r=>
  have hb:=h1 b rfl;rw[iT,if_pos hb]
  cases k with
  | zero=>have:=h4 b rfl;unfold iK at this;rw[hb]at this;cases this
  | succ k=>
   rw[List.take_succ_cons,List.all_cons,Bool.and_eq_true]at h2;rw[aBi iK r k h2.2 (by simpa using h3) (fun c hc=>h4 c hc)];omega
theorem aKQ {l:List UInt8}(h1:∀b,l[0]? = some b→kC b=false):nmL l=0:=by
 cases l with
 | nil=>rfl
 | cons b r=>rw[iT,if_neg (by rw[h1 b rfl];decide)]
theorem yK (s:ByteArray)(w:World) :
  Calls Tryz.prog 32 #[.string s] w fun e w'=>e=.returned (.int .i64 (nmL s.data.toList))∧Below w.heap.size w w':=by
 go_enter Tryz.func32,Tryz.ntmps32;go_wp2_with fail
 go_loopw [3] (fun _ wr=>∃k:Nat,wr=w.iter s k∧k≤s.size∧Hid ((s.data.toList.take k).all iK=true∧(1≤k→∀b,s.data.toList[0]? = some b→kC b=true))) (fun _ wr=>s.size-wr.iterPos w.heap.size)
 case atStart=>exact⟨0,rfl,Nat.zero_le _,⟨by simp,fun h=>by omega⟩⟩
 case round=>
  obtain⟨k,rfl,hk,H⟩:=hrel;have kl:k≤s.data.toList.length:=by rw[←Lib.size_eq];omega
  by_cases hlt:k<s.size
  ·have B:=uV s k hlt
   have ll:1≤s.data.toList.length:=by rw[←Lib.size_eq];omega
   by_cases ha:(s[k]'hlt).toNat<128
   ·have hnx:∀ty,(Instr.next (.pointer (some ⟨w.heap.size,0,none⟩)) true ty).run Tryz.prog (w.iter s k)=_:=fun ty=>run_next_ascii w s k ty hlt ha
    have C:=Hj fun w=>jC ((s[k]'hlt).toNat:Int) w;have L:=Hj fun w=>oU ((s[k]'hlt).toNat:Int) w;rw[qV]at C;rw[rD]at L;have hts:=iB s k hlt
    cases hl:kC (s[k]'hlt)
    ·rw[hl]at L
     by_cases h0:k=0
     ·subst h0
      have F:Hid ((0:Int)=(nmL s.data.toList:Int)):=by
       show _=_;rw[aKQ (fun b hb=>by rw[B]at hb;obtain rfl:=Option.some.inj hb;exact hl)];rfl
      clear B ha hts H C hl;go_wp2_with fail;refine(L.out _).mono ?_;rintro e w' ⟨rfl,rfl⟩;go_wp2_with fail;go_ret;exact⟨aW F.out,aI (Below.refl _ _) _⟩
     ·have hk0:((k:Int) == 0)=false:=by rw[beq_eq_false_iff_ne];omega
      cases hd:bT (s[k]'hlt)
      ·have F:Hid ((k:Int)=(nmL s.data.toList:Int)):=by
        show _=_;rw[aHB (H.out.2 (by omega)) H.out.1 kl (fun b hb=>by rw[B]at hb;obtain rfl:=Option.some.inj hb;unfold iK;rw[hl,hd];rfl) ll]
       rw[hd]at C;clear B ha hts H hl hd;go_wp2_with fail;refine(L.out _).mono ?_;rintro e w' ⟨rfl,rfl⟩;go_wp2_with fail;refine(C.out _).mono ?_;rintro e w' ⟨rfl,rfl⟩;go_wp2_with fail;go_ret;exact⟨aW F.out,aI (Below.refl _ _) _⟩
      ·have H2:Hid ((s.data.toList.take (k+1)).all iK=true∧(1≤k+1→∀b,s.data.toList[0]? = some b→kC b=true)):=by
        refine⟨?_,fun _=>H.out.2 (by omega)⟩;rw[hts,List.all_append,H.out.1]
        simp[iK,hd]
       rw[hd]at C;clear B ha hts H hl hd;go_wp2_with fail;refine(L.out _).mono ?_;rintro e w' ⟨rfl,rfl⟩;go_wp2_with fail;refine(C.out _).mono ?_;rintro e w' ⟨rfl,rfl⟩;go_wp2_with fail
       go_roundw
       case rel=>exact⟨k+1,rfl,by omega,H2⟩
       case measure=>simp;omega
    ·rw[hl]at L
     have H2:Hid ((s.data.toList.take (k+1)).all iK=true∧(1≤k+1→∀b,s.data.toList[0]? = some b→kC b=true)):=by
      refine⟨?_,fun _=>?_⟩
      ·rw[hts,List.all_append,H.out.1]
       simp[iK,hl]
      ·by_cases h0:k=0
       ·intro b hb
        rw[←h0,B]at hb;obtain rfl:=Option.some.inj hb;exact hl
       ·exact H.out.2 (by omega)
     clear B ha hts H hl C;go_wp2_with fail;refine(L.out _).mono ?_;rintro e w' ⟨rfl,rfl⟩;go_wp2_with fail
     go_roundw
     case rel=>exact⟨k+1,rfl,by omega,H2⟩
     case measure=>simp;omega
   ·have hnx:∀ty,(Instr.next (.pointer (some ⟨w.heap.size,0,none⟩)) true ty).run Tryz.prog (w.iter s k)=_:=fun ty=>run_next_any w s k ty hlt
    have hi:=decode_high s k hlt (by omega);have C:=Hj fun w=>jC ((Utf8.decode s k).1:Int) w;have L:=Hj fun w=>oU ((Utf8.decode s k).1:Int) w;rw[xA hi.1]at C;rw[aCo hi.1]at L;have nal:kC (s[k]'hlt)=false:=by rw[←rD];exact aCo (by omega)
    have ndg:bT (s[k]'hlt)=false:=by rw[←qV];exact xA (by omega)
    have F:Hid ((k:Int)=(nmL s.data.toList:Int)):=by
     show _=_
     by_cases h0:k=0
     ·rw[aKQ (fun b hb=>by rw[←h0,B]at hb;obtain rfl:=Option.some.inj hb;exact nal),h0]
     ·rw[aHB (H.out.2 (by omega)) H.out.1 kl (fun b hb=>by rw[B]at hb;obtain rfl:=Option.some.inj hb;unfold iK;rw[nal,ndg];rfl) ll]
    clear B ha hi H nal ndg
    by_cases h0:k=0
    ·subst h0
     clear C;go_wp2_with fail;refine(L.out _).mono ?_;rintro e w' ⟨rfl,rfl⟩;go_wp2_with fail;go_ret;exact⟨aW (by simpa using F.out),aI (Below.refl _ _) _⟩
    ·have hk0:((k:Int) == 0)=false:=by rw[beq_eq_false_iff_ne];omega
     go_wp2_with fail;refine(L.out _).mono ?_;rintro e w' ⟨rfl,rfl⟩;go_wp2_with fail;refine(C.out _).mono ?_;rintro e w' ⟨rfl,rfl⟩;go_wp2_with fail;go_ret;exact⟨aW F.out,aI (Below.refl _ _) _⟩
  ·have hnx:∀ty,(Instr.next (.pointer (some ⟨w.heap.size,0,none⟩)) true ty).run Tryz.prog (w.iter s k)=_:=fun ty=>run_next_end w s k ty hlt
   have F:Hid ((s.size:Int)=(nmL s.data.toList:Int)):=by
    show _=_
    by_cases h0:k=0
    ·have:s.data.toList=[]:=List.eq_nil_of_length_eq_zero (by rw[←Lib.size_eq];omega)
     rw[this,Lib.size_eq,this];rfl
    ·rw[aHB (H.out.2 (by omega)) H.out.1 kl (fun b hb=>(aIO s k hlt b hb).elim) (by omega)]
     omega
   clear H;go_wp2_with fail;go_ret;exact⟨aW F.out,aI (Below.refl _ _) _⟩
def stB (l set:List UInt8):Bool:=match l with
 | []=>false
 | b::_=>set.contains b
theorem aHU (c:UInt8):∀l:List UInt8,decide (0≤Lib.indexByte l c)=l.contains c
 | []=>rfl
 | b::l=>by
  have ih:=aHU c l;have g:=Lib.indexByte_ge l c;unfold Lib.indexByte;rw[List.contains_cons]
  by_cases h:b=c
  ·subst h
   simp
  ·have h1:(b == c)=false:=by simpa using h
   have h2:(c == b)=false:=by simpa using fun e=>h e.symm
   rw[h1,h2,Bool.false_or,←ih]
   by_cases h3:Lib.indexByte l c = -1
   ·rw[h3]
    decide
   ·have h4:(Lib.indexByte l c == -1)=false:=by simpa using h3
    rw[h4];simp only[Bool.false_eq_true,if_false];rw[decide_eq_decide];omega
theorem tU (s:ByteArray)(h:s.size≠0):∃(b:UInt8) (r:List UInt8),s.data.toList=b::r∧∀h0:0<s.size,s[0]'h0=b:=by
 cases hl:s.data.toList with
 | nil=>exact absurd (by rw[Lib.size_eq,hl];rfl) h
 | cons b r=>
  refine⟨b,r,rfl,fun h0=>?_⟩;have:=uV s 0 h0;rw[hl]at this;exact(Option.some.inj this).symm
theorem aHD (s:ByteArray)(h:s.size=0):s.data.toList=[]:=List.eq_nil_of_length_eq_zero (by rw[←Lib.size_eq];exact h)
theorem aAG (s:ByteArray):s.toList.isEmpty=decide (s.size=0):=by
 rw[Lib.toList_data,Lib.size_eq];cases s.data.toList<;>simp
theorem mR (s t:ByteArray)(w:World) :
  Calls Tryz.prog 149 #[.string s,.string t] w fun e w'=>e=.returned (.bool (stB s.data.toList t.data.toList))∧w=w':=by
 by_cases h0:s.size=0
 ·have e:s.toList.isEmpty=true:=by rw[aAG,decide_eq_true h0]
  have F:Hid (false=stB s.data.toList t.data.toList):=by show _=_;rw[aHD s h0];rfl
  go_enter Tryz.func149,Tryz.ntmps149;go_wp2_with fail;go_ret;exact⟨bD F.out,rfl⟩
 ·have e:s.toList.isEmpty=false:=by rw[aAG,decide_eq_false h0]
  obtain⟨b,r,hl,hb⟩:=tU s h0;have hs0:0<s.size:=by omega
  have hs1:(1:Int)≤(s.size:Int):=by omega
  have S:=hb hs0;have C:=Hj fun w=>mU t (b.toNat:Int) w;have hbb:((b.toNat:Int).toNat.toUInt8)=b:=by simp
  rw[hbb]at C
  have F:Hid (decide (0≤Lib.indexByte t.data.toList b)=stB s.data.toList t.data.toList):=by
   show _=_;rw[aHU,hl];rfl
  clear hl hb hbb;generalize Lib.indexByte t.data.toList b=i at *;go_enter Tryz.func149,Tryz.ntmps149;go_wp2_with fail;refine(C.out _).mono ?_;rintro e w' ⟨rfl,rfl⟩;go_wp2_with fail;go_ret;exact⟨bD F.out,rfl⟩
theorem aJC (l:List UInt8)(c:UInt8):Lib.hasPrefix l [c]=true∧(∃r,l=c::r∧Lib.trimPrefix l [c]=r)∨Lib.hasPrefix l [c]=false∧Lib.trimPrefix l [c]=l∧∀r,l≠c::r:=by
 cases l with
 | nil=>exact .inr ⟨rfl,rfl,fun r h=>by cases h⟩
 | cons b r=>
  by_cases h:c=b
  ·subst h
   have e:Lib.hasPrefix (c::r) [c]=true:=by simp[Lib.hasPrefix]
   refine .inl ⟨e,r,rfl,?_⟩;unfold Lib.trimPrefix;rw[e];rfl
  ·have e:Lib.hasPrefix (b::r) [c]=false:=by simp[Lib.hasPrefix,List.isPrefixOf,h]
   refine .inr ⟨e,?_,fun x hx=>by injection hx with h1 _;exact h h1.symm⟩;unfold Lib.trimPrefix;rw[e];rfl
theorem xX (s:ByteArray)(w:World)(hs:s.size≤1048576) :
  Calls Tryz.prog 145 #[.string s] w fun e w'=>e=.returned (.int .i64 (frL s.data.toList))∧Below w.heap.size w w':=by
 have C:=Hj fun w=>iR s ⟨#[46]⟩ w;obtain⟨t,ht⟩:∃t:ByteArray,t=⟨(Lib.trimPrefix s.data.toList [46]).toArray⟩:=⟨_,rfl⟩;have dt:t.data.toList=Lib.trimPrefix s.data.toList [46]:=by rw[ht]
 have D:=Hj fun w=>kE t w;rw[dt]at D;change Hid (∀w,Calls Tryz.prog 172 #[.string s,.string ⟨#[46]⟩] w fun e w'=>e=.returned (.tuple #[.string ⟨(Lib.trimPrefix s.data.toList [46]).toArray⟩,.bool (Lib.hasPrefix s.data.toList [46])])∧w'=w)at C;rw[←ht]at C;rcases aJC s.data.toList 46 with⟨e1,r,e2,e3⟩|⟨e1,e2,e3⟩
 ·rw[e1]at C
  rw[e3]at D;have bd:=pH r;have:s.size=r.length+1:=by rw[Lib.size_eq,e2];rfl
  have ov:IntKind.i64.wrap (1+(dgL r:Int))=1+dgL r:=by rw[IntKind.wrap_i64];omega
  have F:Hid ((if dgL r=0 then 0 else 1+(dgL r:Int))=(frL s.data.toList:Int)):=by
   show _=_;rw[e2,jW]
   by_cases h:dgL r=0
   ·rw[if_pos h,if_neg (fun k=>k.2 h)]
    rfl
   ·rw[if_neg h,if_pos ⟨rfl,h⟩]
    omega
  clear e1 e2 e3 ht dt;generalize dgL r=n at *
  by_cases h:n=0
  ·subst h
   go_enter Tryz.func145,Tryz.ntmps145;go_wp2_with fail;refine(C.out _).mono ?_;rintro e w1 ⟨rfl,rfl⟩;go_wp2_with fail;refine(D.out _).mono ?_;rintro e w2 ⟨rfl,hb⟩;have HB:=Hj hb;clear hb;go_wp2_with fail;go_ret;exact⟨aW F.out,HB.out⟩
  ·have h':((n:Int) == 0)=false:=by rw[beq_eq_false_iff_ne];omega
   rw[if_neg h]at F;go_enter Tryz.func145,Tryz.ntmps145;go_wp2_with fail;refine(C.out _).mono ?_;rintro e w1 ⟨rfl,rfl⟩;go_wp2_with fail;refine(D.out _).mono ?_;rintro e w2 ⟨rfl,hb⟩;have HB:=Hj hb;clear hb;go_wp2_with fail;go_ret;exact⟨aW F.out,HB.out⟩
 ·rw[e1]at C
  rw[e2]at D
  have F:Hid ((0:Int)=(frL s.data.toList:Int)):=by
   show _=_
   cases hl:s.data.toList with
   | nil=>rfl
   | cons b r=>
    rw[jW,if_neg]
    ·rfl
    ·rintro⟨h, -⟩
     exact e3 r (by rw[hl,h])
  clear e1 e2 e3 ht dt;generalize dgL s.data.toList=n at *;go_enter Tryz.func145,Tryz.ntmps145;go_wp2_with fail;refine(C.out _).mono ?_;rintro e w1 ⟨rfl,rfl⟩;go_wp2_with fail;refine(D.out _).mono ?_;rintro e w2 ⟨rfl,hb⟩;have HB:=Hj hb;clear hb;go_wp2_with fail;go_ret;exact⟨aW F.out,HB.out⟩
theorem iW (s:ByteArray)(k:Nat):(s.extract k s.size).data.toList=s.data.toList.drop k:=wW s k
theorem xY (s:ByteArray)(w:World)(hs:s.size≤1048576) :
  Calls Tryz.prog 146 #[.string s] w fun e w'=>e=.returned (.int .i64 (exL s.data.toList))∧Below w.heap.size w w':=by
 have C:=Hj fun w=>mR s ⟨#[101,69]⟩ w
 cases hl:s.data.toList with
 | nil=>
  rw[hl]at C;have C':Hid (∀w,Calls Tryz.prog 149 #[.string s,.string ⟨#[101,69]⟩] w fun e w'=>e=.returned (.bool false)∧w=w'):=C.out;clear C hl;go_enter Tryz.func146,Tryz.ntmps146;go_wp2_with fail;refine(C'.out _).mono ?_;rintro e w1 ⟨rfl,rfl⟩;go_wp2_with fail;go_ret;exact⟨rfl,Below.refl _ _⟩
 | cons b r=>
  have hb:stB (b::r) [101,69]=decide (b=101∨b=69):=by
   show([101,69]:List UInt8).contains b=_;rw[Bool.eq_iff_iff]
   simp
  rw[hl]at C;change Hid (∀w,Calls Tryz.prog 149 #[.string s,.string ⟨#[101,69]⟩] w fun e w'=>e=.returned (.bool (stB (b::r) [101,69]))∧w=w')at C;rw[hb]at C;have sz:s.size=r.length+1:=by rw[Lib.size_eq,hl];rfl
  by_cases hE:b=101∨b=69
  ·rw[decide_eq_true hE]at C
   have hs1:(1:Int)≤(s.size:Int):=by omega
   have d1:(s.extract 1 s.size).data.toList=r:=by rw[iW,hl];rfl
   have d2:(s.extract 2 s.size).data.toList=r.drop 1:=by rw[iW,hl];rfl
   have S:=Hj fun w=>mR (s.extract 1 s.size) ⟨#[43,45]⟩ w;have D1:=Hj fun w=>kE (s.extract 1 s.size) w;have D2:=Hj fun w=>kE (s.extract 2 s.size) w;rw[d1]at S D1;rw[d2]at D2;change Hid (∀w,Calls Tryz.prog 149 #[.string (s.extract 1 s.size),.string ⟨#[43,45]⟩] w fun e w'=>e=.returned (.bool (stB r [43,45]))∧w=w')at S
   have hsg:stB r [43,45]=decide (sgL r=1):=by
    cases r with
    | nil=>rfl
    | cons c r=>
     show([43,45]:List UInt8).contains c=_;rw[mX,Bool.eq_iff_iff]
     by_cases h:c=43∨c=45
     ·rw[if_pos h];simpa using h
     ·rw[if_neg h];simpa using h
   have sb:=aAg r
   by_cases h1:sgL r=1
   ·rw[hsg,decide_eq_true h1]at S
    have hs2:(2:Int)≤(s.size:Int):=by omega
    have bd:=pH (r.drop 1);rw[List.length_drop]at bd;have ov:IntKind.i64.wrap (2+(dgL (r.drop 1):Int))=2+dgL (r.drop 1):=by rw[IntKind.wrap_i64];omega
    have F:Hid ((if dgL (r.drop 1)=0 then 0 else 2+(dgL (r.drop 1):Int))=(exL (b::r):Int)):=by
     show _=_;rw[iV,h1]
     by_cases h:dgL (r.drop 1)=0
     ·rw[if_pos h,if_neg (fun k=>k.2 h)]
      rfl
     ·rw[if_neg h,if_pos ⟨hE,h⟩]
      omega
    clear d1 d2 hb hl hE D1 hsg sz;generalize dgL (r.drop 1)=n at *
    by_cases h:n=0
    ·subst h
     go_enter Tryz.func146,Tryz.ntmps146;go_wp2_with fail;refine(C.out _).mono ?_;rintro e w1 ⟨rfl,rfl⟩;go_wp2_with fail;refine(S.out _).mono ?_;rintro e w1 ⟨rfl,rfl⟩;go_wp2_with fail;refine(D2.out _).mono ?_;rintro e w2 ⟨rfl,hb⟩;have HB:=Hj hb;clear hb;go_wp2_with fail;go_ret;exact⟨aW F.out,HB.out⟩
    ·have h':((n:Int) == 0)=false:=by rw[beq_eq_false_iff_ne];omega
     rw[if_neg h]at F;go_enter Tryz.func146,Tryz.ntmps146;go_wp2_with fail;refine(C.out _).mono ?_;rintro e w1 ⟨rfl,rfl⟩;go_wp2_with fail;refine(S.out _).mono ?_;rintro e w1 ⟨rfl,rfl⟩;go_wp2_with fail;refine(D2.out _).mono ?_;rintro e w2 ⟨rfl,hb⟩;have HB:=Hj hb;clear hb;go_wp2_with fail;go_ret;exact⟨aW F.out,HB.out⟩
   ·have h0:sgL r=0:=by omega
    rw[hsg,decide_eq_false h1]at S;have bd:=pH r;have ov:IntKind.i64.wrap (1+(dgL r:Int))=1+dgL r:=by rw[IntKind.wrap_i64];omega
    have F:Hid ((if dgL r=0 then 0 else 1+(dgL r:Int))=(exL (b::r):Int)):=by
     show _=_;rw[iV,h0,List.drop_zero]
     by_cases h:dgL r=0
     ·rw[if_pos h,if_neg (fun k=>k.2 h)]
      rfl
     ·rw[if_neg h,if_pos ⟨hE,h⟩]
      omega
    clear d1 d2 hb hl hE D2 hsg sz;generalize dgL r=n at *
    by_cases h:n=0
    ·subst h
     go_enter Tryz.func146,Tryz.ntmps146;go_wp2_with fail;refine(C.out _).mono ?_;rintro e w1 ⟨rfl,rfl⟩;go_wp2_with fail;refine(S.out _).mono ?_;rintro e w1 ⟨rfl,rfl⟩;go_wp2_with fail;refine(D1.out _).mono ?_;rintro e w2 ⟨rfl,hb⟩;have HB:=Hj hb;clear hb;go_wp2_with fail;go_ret;exact⟨aW F.out,HB.out⟩
    ·have h':((n:Int) == 0)=false:=by rw[beq_eq_false_iff_ne];omega
     rw[if_neg h]at F;go_enter Tryz.func146,Tryz.ntmps146;go_wp2_with fail;refine(C.out _).mono ?_;rintro e w1 ⟨rfl,rfl⟩;go_wp2_with fail;refine(S.out _).mono ?_;rintro e w1 ⟨rfl,rfl⟩;go_wp2_with fail;refine(D1.out _).mono ?_;rintro e w2 ⟨rfl,hb⟩;have HB:=Hj hb;clear hb;go_wp2_with fail;go_ret;exact⟨aW F.out,HB.out⟩
  ·rw[decide_eq_false hE]at C
   have F:Hid ((0:Int)=(exL (b::r):Int)):=by
    show _=_;rw[iV,if_neg (by simp[hE])];rfl
   clear hb hl hE sz;go_enter Tryz.func146,Tryz.ntmps146;go_wp2_with fail;refine(C.out _).mono ?_;rintro e w1 ⟨rfl,rfl⟩;go_wp2_with fail;go_ret;exact⟨aW F.out,Below.refl _ _⟩
theorem aBa (s:ByteArray)(w:World)(hs:s.size≤1048576) :
  Calls Tryz.prog 118 #[.string s] w fun e w'=>e=.returned (.tuple #[.int .i64 (nuL s.data.toList),.bool (nuF s.data.toList)])∧Below w.heap.size w w':=by
 have D:=Hj fun w=>kE s w;have b1:=pH s.data.toList;rw[←Lib.size_eq]at b1
 by_cases h:dgL s.data.toList=0
 ·rw[h]at D
  have F1:Hid ((0:Int)=(nuL s.data.toList:Int)):=by show _=_;unfold nuL;rw[if_pos h];rfl
  have F2:Hid (false=nuF s.data.toList):=by show _=_;unfold nuF nuL;rw[if_pos h,decide_eq_false (by omega)]
  clear h b1;go_enter Tryz.func118,Tryz.ntmps118;go_wp2_with fail;refine(D.out _).mono ?_;rintro e w1 ⟨rfl,hb⟩;have HB:=Hj hb;clear hb;go_wp2_with fail;exact bodyPost_ret (by simp[results,Tryz.results118,go_sem];(try rfl)) rfl ⟨by rw[←F1.out,←F2.out],HB.out⟩
 ·have h':((dgL s.data.toList:Int) == 0)=false:=by rw[beq_eq_false_iff_ne];omega
  have X1:=Hj fun w=>xX (s.extract (dgL s.data.toList) s.size) w (by rw[Lib.size_eq,iW,List.length_drop,←Lib.size_eq];omega);rw[iW]at X1;have b2:=aIk (s.data.toList.drop (dgL s.data.toList));rw[List.length_drop,←Lib.size_eq]at b2;have X2:=Hj fun w=>xY (s.extract (nuA s.data.toList) s.size) w (by rw[Lib.size_eq,iW,List.length_drop,←Lib.size_eq];omega);rw[iW]at X2;have b3:=aIt (s.data.toList.drop (nuA s.data.toList));rw[List.length_drop,←Lib.size_eq]at b3;have b4:=aHv s.data.toList;rw[←Lib.size_eq]at b4;have eA:nuA s.data.toList=dgL s.data.toList+frL (s.data.toList.drop (dgL s.data.toList)):=rfl;have F1:Hid ((nuA s.data.toList:Int)+exL (s.data.toList.drop (nuA s.data.toList))=(nuL s.data.toList:Int)):=by show _=_;unfold nuL;rw[if_neg h];omega
  have F2:Hid (decide ((dgL s.data.toList:Int)<(nuA s.data.toList:Int)+exL (s.data.toList.drop (nuA s.data.toList)))=nuF s.data.toList):=by
   show _=_;unfold nuF nuL;rw[if_neg h,decide_eq_decide];omega
  generalize exL (s.data.toList.drop (nuA s.data.toList))=x at *;generalize nuA s.data.toList=a at *;generalize frL (s.data.toList.drop (dgL s.data.toList))=f at *;generalize dgL s.data.toList=d at *;have ov1:IntKind.i64.wrap ((d:Int)+f)=a:=by rw[IntKind.wrap_i64];omega
  have ov2:IntKind.i64.wrap ((a:Int)+x)=a+x:=by rw[IntKind.wrap_i64];omega
  have l1:(d:Int)≤(s.size:Int):=by omega
  have l2:(a:Int)≤(s.size:Int):=by omega
  clear eA h b1 b2 b3 b4;go_enter Tryz.func118,Tryz.ntmps118;go_wp2_with fail;refine(D.out _).mono ?_;rintro e w1 ⟨rfl,hb⟩;have HB:=Hj hb;clear hb;go_wp2_with fail;refine(X1.out _).mono ?_;rintro e w2 ⟨rfl,hb⟩;have HB2:=Hj (aG HB.out hb);clear hb HB;go_wp2_with fail;refine(X2.out _).mono ?_;rintro e w3 ⟨rfl,hb⟩;have HB3:=Hj (aG HB2.out hb);clear hb HB2;go_wp2_with fail;exact bodyPost_ret (by simp[results,Tryz.results118,go_sem];(try rfl)) rfl ⟨by rw[←F1.out,←F2.out],HB3.out⟩
theorem aGk {x:List UInt8}(h:rL.contains x=false):(x == [61,61])=false∧(x == [33,61])=false∧(x == [60,61])=false∧(x == [62,61])=false∧(x == [38,38])=false∧(x == [124,124])=false∧(x == [46,46])=false:=by
 unfold rL at h
 simpa [Bool.or_eq_false_iff] using h
theorem aGj {x:List UInt8}(h:rL.contains x=true):x=[61,61]∨x=[33,61]∨x=[60,61]∨x=[62,61]∨x=[38,38]∨x=[124,124]∨x=[46,46]:=by
 unfold rL at h
 simpa using h
theorem aLH (l:List UInt8):stB l aAo=decide (si1 l=1):=by
 cases l with
 | nil=>rfl
 | cons b r=>
  rw[jR];show aAo.contains b=_
  cases aAo.contains b<;>rfl
theorem aEQ (s:ByteArray)(w:World) :
  Calls Tryz.prog 120 #[.string s] w fun e w'=>e=.returned (.int .i64 (siL s.data.toList))∧w=w':=by
 have T:(s.extract 0 (min 2 (s.size:Int)).toNat).toList=s.data.toList.take 2:=by
  rw[Lib.toList_data,sN,Lib.size_eq];rw[show(min 2 ((s.data.toList.length:Nat):Int)).toNat=min 2 s.data.toList.length by omega,←List.take_take,List.take_length]
 have E:siL s.data.toList=if rL.contains (s.data.toList.take 2)then 2 else si1 s.data.toList:=rfl
 have C:=Hj fun w=>mR s ⟨#[40,41,91,93,123,125,44,59,58,61,60,62,43,45,42,47,33]⟩ w;change Hid (∀w,Calls Tryz.prog 149 #[.string s,.string ⟨#[40,41,91,93,123,125,44,59,58,61,60,62,43,45,42,47,33]⟩] w fun e w'=>e=.returned (.bool (stB s.data.toList aAo))∧w=w')at C;rw[aLH]at C
 have b1:si1 s.data.toList≤1:=by
  cases s.data.toList with
  | nil=>decide
  | cons b r=>rw[jR];split<;>omega
 generalize s.data.toList.take 2=x at *;generalize si1 s.data.toList=n at *
 cases h:rL.contains x
 ·obtain⟨n1,n2,n3,n4,n5,n6,n7⟩:=aGk h
  have F:Hid ((n:Int)=(siL s.data.toList:Int)):=by show _=_;rw[E,h];rfl
  clear E h
  by_cases h1:n=1
  ·subst h1
   go_enter Tryz.func120,Tryz.ntmps120;go_wp2_with fail;refine(C.out _).mono ?_;rintro e w1 ⟨rfl,rfl⟩;go_wp2_with fail;go_ret;exact⟨aW F.out,rfl⟩
  ·obtain rfl:n=0:=by omega
   go_enter Tryz.func120,Tryz.ntmps120;go_wp2_with fail;refine(C.out _).mono ?_;rintro e w1 ⟨rfl,rfl⟩;go_wp2_with fail;go_ret;exact⟨aW F.out,rfl⟩
 ·have F:Hid ((2:Int)=(siL s.data.toList:Int)):=by show _=_;rw[E,h];rfl
  clear E C b1;rcases aGj h with rfl|rfl|rfl|rfl|rfl|rfl|rfl
  all_goals
   clear h;go_enter Tryz.func120,Tryz.ntmps120;go_wp2_with fail;go_ret;exact⟨aW F.out,rfl⟩
theorem aAy:∀l:List UInt8,gp (Lib.trimLeftS l [9,10,13,32])=gp l
 | []=>rfl
 | b::r=>by
  unfold Lib.trimLeftS;rw[List.dropWhile_cons];have e:([9,10,13,32]:List UInt8).contains b=wR b:=rfl
  by_cases h:wR b=true
  ·rw[e,if_pos h]
   have:gp (b::r)=gp r:=by unfold gp;rw[gpB,if_pos h]
   rw[this];exact aAy r
  ·rw[e,if_neg h]
theorem aEu:∀l:List UInt8,gpB true l=gp (Lib.cut l [10]).2.1
 | []=>rfl
 | b::r=>by
  have ih:=aEu r
  by_cases h:b=10
  ·subst h
   have:Lib.cut (10::r) [10]=([],r,true):=by
    unfold Lib.cut Lib.index
    simp[List.isPrefixOf]
   rw[this,gpB,if_pos rfl];rfl
  ·rw[gpB,if_neg h,ih]
   have e:(10 == b)=false:=by rw[beq_eq_false_iff_ne];exact fun e=>h e.symm
   have ge:=Lib.index_ge r [10];unfold Lib.cut;rw[Lib.index];simp only[List.isPrefixOf,e,Bool.false_and,Bool.false_eq_true,if_false]
   by_cases h1:Lib.index r [10] = -1
   ·rw[h1]
    rfl
   ·have h2:(Lib.index r [10] == -1)=false:=by simpa using h1
    rw[h2];simp only[Bool.false_eq_true,if_false];rw[if_pos (by omega),if_pos (by omega)];dsimp only
    congr 1
    rw[show(Lib.index r [10]+1).toNat+([10]:List UInt8).length=((Lib.index r [10]).toNat+([10]:List UInt8).length)+1 by simp only[List.length_cons,List.length_nil];omega,List.drop_succ_cons]
theorem aMk (b:UInt8)(r:List UInt8):gpB false (b::r)=if wR b then gpB false r else if b=47∧r.head? = some 47 then gpB true r else b::r:=by rw[gpB]
theorem aMj (b:UInt8)(r:List UInt8):gpB true (b::r)=if b=10 then gpB false r else gpB true r:=by rw[gpB]
theorem aKd (l:List UInt8)(h:Lib.hasPrefix l [47,47]=true):gp l=gp (Lib.cut l [10]).2.1:=by
 cases l with
 | nil=>cases h
 | cons b l=>
  cases l with
  | nil=>simp[Lib.hasPrefix,List.isPrefixOf]at h
  | cons c l=>
   simp only[Lib.hasPrefix,List.isPrefixOf,Bool.and_eq_true,beq_iff_eq,and_true]at h;obtain⟨rfl,rfl⟩:=h;rw[←aEu];unfold gp;rw[aMk 47 (47::l),if_neg (by decide),if_pos ⟨rfl,rfl⟩,aMj 47 (47::l),if_neg (by decide)]
theorem aKc (l:List UInt8)(h:Lib.hasPrefix l [47,47]=false)(hw:∀b,l[0]? = some b→wR b=false):gp l=l:=by
 cases l with
 | nil=>rfl
 | cons b l=>
  unfold gp;rw[gpB,if_neg (by rw[hw b rfl];decide),if_neg];rintro⟨rfl,h2⟩
  cases l with
  | nil=>cases h2
  | cons c l=>
   obtain rfl:c=47:=by simpa using h2
   simp[Lib.hasPrefix,List.isPrefixOf]at h
theorem yP (l:List UInt8):∀b,(Lib.trimLeftS l [9,10,13,32])[0]? = some b→wR b=false:=by
 induction l with
 | nil=>intro b h;cases h
 | cons c r ih=>
  unfold Lib.trimLeftS at ih ⊢;rw[List.dropWhile_cons]
  by_cases h:([9,10,13,32]:List UInt8).contains c=true
  ·rw[if_pos h];exact ih
  ·rw[if_neg h]
   intro b hb;obtain rfl:c=b:=by simpa using hb
   exact by simpa [wR] using h
theorem yO (l cs:List UInt8):(Lib.trimLeftS l cs).length≤l.length:=by
 unfold Lib.trimLeftS
 induction l with
 | nil=>simp
 | cons b r ih=>rw[List.dropWhile_cons];split<;>simp only[List.length_cons]<;>omega
theorem aIC {l:List UInt8}(h:Lib.hasPrefix l [47,47]=true):(Lib.cut l [10]).2.1.length<l.length:=by
 have h0:l≠[]:=by rintro rfl;cases h
 have h1:0<l.length:=List.length_pos_iff.2 h0;unfold Lib.cut;split
 ·rw[List.length_drop]
  simp only[List.length_cons,List.length_nil];omega
 ·exact h1
theorem aNH:(Tryz.prog.info? 200).map (fun i=>(i.zero,i.size))=some (some (.agg (Array.replicate 256 (.bool false))),256):=by kernel_rfl
theorem yQ (s:ByteArray)(w:World):Calls Tryz.prog 114 #[.string s,.string ⟨#[9,10,13,32]⟩] w fun e w'=>e=.returned (.string ⟨(Lib.trimLeftS s.data.toList [9,10,13,32]).toArray⟩)∧Below w.heap.size w w':=
 Any.strings_TrimLeft_laid aCJ aNH s ⟨#[9,10,13,32]⟩ w (by decide) (ascii_of_all (by decide))
theorem aBc (s:ByteArray)(w:World)(hs:s.size≤1048576)(hE:EnvOk w) :
  Calls Tryz.prog 95 #[.string s] w fun e w'=>e=.returned (.int .i64 (gpN s.data.toList))∧Below w.heap.size w w':=by
 have G:=jF s.data.toList;rw[←Lib.size_eq]at G;have T:=Hj fun w=>yQ s w;obtain⟨t,ht⟩:∃t:ByteArray,t=⟨(Lib.trimLeftS s.data.toList [9,10,13,32]).toArray⟩:=⟨_,rfl⟩;have dt:t.data.toList=Lib.trimLeftS s.data.toList [9,10,13,32]:=by rw[ht]
 rw[←ht]at T
 have H0:Hid (gp t.data.toList=gp s.data.toList∧t.size≤s.size∧∀b,t.data.toList[0]? = some b→wR b=false):=by
  refine⟨by rw[dt,aAy],?_,by rw[dt];exact yP _⟩;rw[Lib.size_eq,Lib.size_eq,dt];exact yO _ _
 clear ht dt;go_enter Tryz.func95,Tryz.ntmps95;go_wp2_with fail;refine(T.out _).mono ?_;rintro e w1 ⟨rfl,hb⟩;have HB1:=Hj hb;clear hb T;go_wp2_with fail
 go_loopw [3] (fun s3 wr=>∃t:ByteArray,s3=.string t∧Hid (gp t.data.toList=gp s.data.toList∧t.size≤s.size∧∀b,t.data.toList[0]? = some b→wR b=false)∧Hid (Below w.heap.size w wr)) (fun s3 _=>match s3 with|.string t=>t.size|_=>0)
 case atStart=>exact⟨t,rfl,H0,HB1⟩
 case round=>
  obtain⟨t,rfl,H,HB⟩:=hrel;obtain⟨h1,h2,h3⟩:=H.out;have C:=Hj fun w=>mV t ⟨#[47,47]⟩ w;change Hid (∀w,Calls Tryz.prog 115 #[.string t,.string ⟨#[47,47]⟩] w fun e w'=>e=.returned (.bool (Lib.hasPrefix t.data.toList [47,47]))∧w'=w)at C
  cases hp:Lib.hasPrefix t.data.toList [47,47]
  ·rw[hp]at C
   have e:gp s.data.toList=t.data.toList:=by rw[←h1];exact aKc _ hp h3
   have ov:IntKind.i64.wrap ((s.size:Int)-t.size)=gpN s.data.toList:=by
    rw[IntKind.wrap_i64];rw[e,←Lib.size_eq]at G;omega
   clear h1 h2 h3 hp e G H H0;go_wp2_with fail;refine(C.out _).mono ?_;rintro e w1 ⟨rfl,rfl⟩;go_wp2_with fail;go_ret;exact⟨rfl,HB.out⟩
  ·rw[hp]at C
   obtain⟨m,hm⟩:=(hE.below HB.out).len;have CC:=Hj (mW t ⟨#[10]⟩ m wr (by omega) hm);change Hid (Calls Tryz.prog 116 #[.string t,.string ⟨#[10]⟩] wr fun e w'=>e=.returned (.tuple #[.string ⟨(Lib.cut t.data.toList [10]).1.toArray⟩,.string ⟨(Lib.cut t.data.toList [10]).2.1.toArray⟩,.bool (Lib.cut t.data.toList [10]).2.2])∧∃n,w'=wr.drewN n)at CC;obtain⟨u,hu⟩:∃u:ByteArray,u=⟨(Lib.cut t.data.toList [10]).2.1.toArray⟩:=⟨_,rfl⟩;obtain⟨v,hv⟩:∃v:ByteArray,v=⟨(Lib.trimLeftS u.data.toList [9,10,13,32]).toArray⟩:=⟨_,rfl⟩;have du:u.data.toList=(Lib.cut t.data.toList [10]).2.1:=by rw[hu]
   have dv:v.data.toList=Lib.trimLeftS u.data.toList [9,10,13,32]:=by rw[hv]
   have lu:u.size<t.size:=by rw[Lib.size_eq,Lib.size_eq,du];exact aIC hp
   have lv:v.size≤u.size:=by rw[Lib.size_eq,Lib.size_eq,dv];exact yO _ _
   have T:=Hj fun w=>yQ u w;rw[←hu]at CC;rw[←hv]at T
   have H2:Hid (gp v.data.toList=gp s.data.toList∧v.size≤s.size∧∀b,v.data.toList[0]? = some b→wR b=false):=by
    refine⟨?_,by omega,by rw[dv];exact yP _⟩;rw[dv,aAy,du,←aKd _ hp,h1]
   clear h1 h2 h3 hp H H0 hu hv du dv G hm;generalize (⟨(Lib.cut t.data.toList [10]).1.toArray⟩:ByteArray)=z at *;generalize (Lib.cut t.data.toList [10]).2.2=y at *;go_wp2_with fail;refine(C.out _).mono ?_;rintro e w1 ⟨rfl,rfl⟩;go_wp2_with fail;refine CC.out.mono ?_;rintro e w2 ⟨rfl,n,hw2⟩;have HB2:=Hj (aG HB.out (hw2 ▸ nO _ n));clear hw2 CC C;go_wp2_with fail;refine(T.out _).mono ?_;rintro e w3 ⟨rfl,hb⟩;have HB3:=Hj (aG HB2.out hb);clear hb T HB2;go_wp2_with fail
   go_roundw
   case rel=>exact⟨v,rfl,H2,HB3⟩
   case measure=>simp;omega
end Go.Proofs.YtkbicfffokegeaaGreatDoor
