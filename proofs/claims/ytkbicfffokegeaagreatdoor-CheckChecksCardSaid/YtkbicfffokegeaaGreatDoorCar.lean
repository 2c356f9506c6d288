/-
  Whatever program is handed in, CheckChecks answers true. (part 18 of 38) Conditions: none beside what the card ties.
-/
import Derived.Test.YtkbicfffokegeaaGreatDoorCap
namespace Go.Proofs.YtkbicfffokegeaaGreatDoor
set_option maxHeartbeats 16000000
open Go.RowKit Go.Maps
set_option maxRecDepth 100000
theorem aCu (n:Int)(w:World):Calls Tryz.prog 63 #[.int .u8 n] w fun e w'=>e=.returned (.bool (dgN n))∧w=w':=by
 by_cases h1:48≤n
 ·have F:Hid (decide (n≤57)=dgN n):=by show _=_;unfold dgN;rw[decide_eq_true h1];rfl
  go_enter Tryz.func63,Tryz.ntmps63;go_wp2_with fail;go_ret;exact⟨bD F.out,rfl⟩
 ·have F:Hid (false=dgN n):=by show _=_;unfold dgN;rw[decide_eq_false h1];rfl
  go_enter Tryz.func63,Tryz.ntmps63;go_wp2_with fail;go_ret;exact⟨bD F.out,rfl⟩
theorem tB (n:Int)(w:World):Calls Tryz.prog 62 #[.int .u8 n] w fun e w'=>e=.returned (.bool (alN n))∧w=w':=by
 by_cases h1:65≤n
 ·by_cases h2:n≤90
  ·have F:Hid (true=alN n):=by show _=_;unfold alN;rw[decide_eq_true h1,decide_eq_true h2,Bool.and_self,Bool.or_true,Bool.true_or]
   go_enter Tryz.func62,Tryz.ntmps62;go_wp2_with fail;go_ret;exact⟨bD F.out,rfl⟩
  ·by_cases h3:97≤n
   ·by_cases h4:n≤122
    ·have F:Hid (true=alN n):=by show _=_;unfold alN;rw[decide_eq_true h3,decide_eq_true h4];rfl
     go_enter Tryz.func62,Tryz.ntmps62;go_wp2_with fail;go_ret;exact⟨bD F.out,rfl⟩
    ·have F:Hid ((n == 95)=alN n):=by show _=_;unfold alN;rw[decide_eq_false h2,decide_eq_false h4,Bool.and_false,Bool.and_false,Bool.eq_iff_iff];simp
     go_enter Tryz.func62,Tryz.ntmps62;go_wp2_with fail;go_ret;exact⟨bD F.out,rfl⟩
   ·have F:Hid ((n == 95)=alN n):=by show _=_;unfold alN;rw[decide_eq_false h2,decide_eq_false h3,Bool.and_false,Bool.false_and,Bool.eq_iff_iff];simp
    go_enter Tryz.func62,Tryz.ntmps62;go_wp2_with fail;go_ret;exact⟨bD F.out,rfl⟩
 ·have h3:¬97≤n:=by omega
  have F:Hid ((n == 95)=alN n):=by show _=_;unfold alN;rw[decide_eq_false h1,decide_eq_false h3,Bool.false_and,Bool.false_and,Bool.eq_iff_iff];simp
  go_enter Tryz.func62,Tryz.ntmps62;go_wp2_with fail;go_ret;exact⟨bD F.out,rfl⟩
def amW:List UInt8→List UInt8→List (List UInt8)
 | _,[]=>[]
 | acc,b::r=>if b=32 then acc::amW [] r else amW (acc++[b]) r
theorem aKm (s:ByteArray)(k:Nat)(h:k<s.size):s.data.toList.drop k=s[k]::s.data.toList.drop (k+1):=by
 have hl:k<s.data.toList.length:=by rw[←Lib.size_eq];exact h
 rw[List.drop_eq_getElem_cons hl];rfl
theorem aET {s:ByteArray}{f k:Nat}(h:k<s.size)(hf:f≤k):(s.data.toList.drop f).take (k+1-f)=(s.data.toList.drop f).take (k-f)++[s[k]]:=by
 have hl:k-f<(s.data.toList.drop f).length:=by rw[List.length_drop,←Lib.size_eq];omega
 rw[show k+1-f=(k-f)+1 by omega,List.take_succ_eq_append_getElem hl]
 congr 2
 rw[List.getElem_drop];have:f+(k-f)=k:=by omega
 simp only[this];rfl
theorem aCv (s t:ByteArray)(w:World)(ht:t.size≤1000) :
  Calls Tryz.prog 88 #[.string s,.string t] w fun e w'=>e=.returned (.bool ((amW [] t.data.toList).contains s.data.toList))∧w=w':=by
 have HT:=Hj ht;clear ht;generalize hR:(amW [] t.data.toList).contains s.data.toList=R;have HR:=Hj hR;clear hR;go_enter Tryz.func88,Tryz.ntmps88;go_wp2_with fail
 go_loop [5,6] (fun s5 s6=>∃f k:Nat,s5=.int .i64 (f:Int)∧s6=.int .i64 (k:Int)∧f≤k∧k≤t.size∧Hid ((amW ((t.data.toList.drop f).take (k-f)) (t.data.toList.drop k)).contains s.data.toList=R)) (fun _ s6=>t.size-(intOf s6).toNat)
 case atStart=>exact⟨0,0,rfl,rfl,aD _,Nat.zero_le _,HR.out⟩
 case round=>
  obtain⟨f,k,rfl,rfl,hf,hk,H⟩:=hrel;have HT':=HT.out
  by_cases hlt:k<t.size
  ·have h1:(k:Int)<(t.size:Int):=by omega
   have DA:=aKm t k hlt;have TN:=aET hlt hf;have H':=H.out;rw[DA]at H';have ov:IntKind.i64.wrap ((k:Int)+1)=((k+1:Nat):Int):=by rw[IntKind.wrap_i64];omega
   by_cases hb:t[k]=32
   ·have e:((t[k]'hlt).toNat:Int)=32:=aKv hb (by decide)
    have f1:(f:Int)≤(k:Int):=by omega
    have f2:(k:Int)≤(t.size:Int):=by omega
    have ME:(t.extract f k).toList=(t.data.toList.drop f).take (k-f):=by rw[Lib.toList_data];exact aJQ t f k
    have MS:s.toList=s.data.toList:=Lib.toList_data s;have A:amW ((t.data.toList.drop f).take (k-f)) (t[k]::t.data.toList.drop (k+1))=(t.data.toList.drop f).take (k-f)::amW [] (t.data.toList.drop (k+1)):=by rw[amW,if_pos hb]
    rw[A,List.contains_cons]at H'
    by_cases hs:(t.data.toList.drop f).take (k-f)=s.data.toList
    ·have q:((t.extract f k).toList == s.toList)=true:=by rw[ME,MS,hs];simp
     have FR:Hid (true=R):=by
      show _=_;rw[←H',hs]
      simp
     clear H H' A DA TN hb ME MS hs HT' HR;go_wp2_with fail;go_ret;exact⟨bD FR.out,rfl⟩
    ·have q:((t.extract f k).toList == s.toList)=false:=by rw[ME,MS];simpa using hs
     have q':(s.data.toList == (t.data.toList.drop f).take (k-f))=false:=by simpa using fun e=>hs e.symm
     rw[q',Bool.false_or]at H'
     have H2:Hid ((amW ((t.data.toList.drop (k+1)).take (k+1-(k+1))) (t.data.toList.drop (k+1))).contains s.data.toList=R):=by
      show _=_;rw[Nat.sub_self,List.take_zero];exact H'
     clear H H' A DA TN hb ME MS hs q' HR;go_wp2_with fail
     go_round
     case rel=>exact⟨k+1,k+1,by go_num,by go_num,aD _,by omega,H2⟩
     case measure=>simp[intOf];omega
   ·have e:(((t[k]'hlt).toNat:Int) == 32)=false:=aKu hb (by decide)
    rw[amW,if_neg hb,←TN]at H';have H2:Hid ((amW ((t.data.toList.drop f).take (k+1-f)) (t.data.toList.drop (k+1))).contains s.data.toList=R):=H';clear H H' DA TN hb HR;go_wp2_with fail
    go_round
    case rel=>exact⟨f,k+1,rfl,by go_num,by omega,by omega,H2⟩
    case measure=>simp[intOf];omega
  ·obtain rfl:k=t.size:=by omega
   have FR:Hid (false=R):=by
    show _=_;rw[←H.out,show t.data.toList.drop t.size=[]from List.drop_eq_nil_of_le (by rw[←Lib.size_eq];exact aD _)]
    simp[amW]
   clear H HR;go_wp2_with fail;go_ret;exact⟨bD FR.out,rfl⟩
theorem aNk:amW [] [116,105,99,107,115,32,105,110,112,117,116,32,118,97,114,32,105,110,105,116,32,115,116,101,112,32,105,102,32,101,108,115,101,32,102,111,114,32,116,114,117,101,32,102,97,108,115,101,32,105,110,116,32,102,108,111,97,116,32,98,111,111,108,32,97,98,115,32,105,110,32]=kwS:=by decide +kernel
theorem aAY (s:ByteArray)(w:World):Calls Tryz.prog 64 #[.string s] w fun e w'=>e=.returned (.bool (kwS.contains s.data.toList))∧w=w':=by
 have A:=Hj fun w=>aCv s ⟨#[116,105,99,107,115,32,105,110,112,117,116,32,118,97,114,32,105,110,105,116,32,115,116,101,112,32,105,102,32,101,108,115,101,32,102,111,114,32,116,114,117,101,32,102,97,108,115,101,32,105,110,116,32,102,108,111,97,116,32,98,111,111,108,32,97,98,115,32,105,110,32]⟩ w (by decide);have e:=aNk;change Hid (∀w,Calls Tryz.prog 88 #[.string s,.string ⟨#[116,105,99,107,115,32,105,110,112,117,116,32,118,97,114,32,105,110,105,116,32,115,116,101,112,32,105,102,32,101,108,115,101,32,102,111,114,32,116,114,117,101,32,102,97,108,115,101,32,105,110,116,32,102,108,111,97,116,32,98,111,111,108,32,97,98,115,32,105,110,32]⟩] w fun e w'=>e=.returned (.bool ((amW [] [116,105,99,107,115,32,105,110,112,117,116,32,118,97,114,32,105,110,105,116,32,115,116,101,112,32,105,102,32,101,108,115,101,32,102,111,114,32,116,114,117,101,32,102,97,108,115,101,32,105,110,116,32,102,108,111,97,116,32,98,111,111,108,32,97,98,115,32,105,110,32]).contains s.data.toList))∧w=w')at A;rw[e]at A;clear e;generalize kwS.contains s.data.toList=R at *;go_enter Tryz.func64,Tryz.ntmps64;go_wp2_with fail;refine(A.out _).mono ?_;rintro e w1 ⟨rfl,rfl⟩;go_wp2_with fail;go_ret;exact⟨rfl,rfl⟩
theorem aKa {l:List UInt8}{b:UInt8}{r:List UInt8}(h:l=b::r):decide (nmL l=l.length)=(kC b && r.all iK):=by
 subst h;rw[iT,List.length_cons]
 have key:∀r:List UInt8,decide ((r.takeWhile iK).length=r.length)=r.all iK:=by
  intro r
  induction r with
  | nil=>rfl
  | cons c r ih=>
   rw[List.takeWhile_cons,List.all_cons]
   cases hc:iK c
   ·simp
   ·rw[if_pos rfl,List.length_cons,List.length_cons,Bool.true_and,←ih,decide_eq_decide]
    omega
 cases kC b
 ·simp
 ·rw[if_pos rfl,Bool.true_and,←key,decide_eq_decide]
  omega
theorem aIU (b:UInt8):iK b=(alN (b.toNat:Int) || dgN (b.toNat:Int)):=by
 rw[rD,qV];rfl
theorem tC (s:ByteArray)(w:World)(hs:s.size≤1048576):Calls Tryz.prog 40 #[.string s] w fun e w'=>e=.returned (.bool (aU s.data.toList))∧w=w':=by
 have V:aU s.data.toList=(!s.data.toList.isEmpty && (decide (s.data.toList.length≤32) && (decide (nmL s.data.toList=s.data.toList.length) && !kwS.contains s.data.toList))):=rfl;have W:=Hj fun w=>aAY s w;have HS:=Hj hs;clear hs;generalize aU s.data.toList=R at *;generalize kwS.contains s.data.toList=K at *
 by_cases h0:s.size=0
 ·have e:s.toList.isEmpty=true:=by rw[aAG,decide_eq_true h0]
  have FR:Hid (false=R):=by show _=_;rw[V,aHD s h0];rfl
  clear V W;go_enter Tryz.func40,Tryz.ntmps40;go_wp2_with fail;go_ret;exact⟨bD FR.out,rfl⟩
 ·have e:s.toList.isEmpty=false:=by rw[aAG,decide_eq_false h0]
  obtain⟨b,r,hl,hb⟩:=tU s h0;have hs0:0<s.size:=by omega
  have hb0:=hb hs0;have hs1:(0:Int)<(s.size:Int):=by omega
  have V2:R=(decide (s.size≤32) && ((kC b && r.all iK) && !K)):=by
   rw[V,aKa hl,←Lib.size_eq,hl];rfl
  clear V hb
  by_cases h32:s.size≤32
  ·have h32':¬(32:Int)<(s.size:Int):=by omega
   rw[decide_eq_true h32,Bool.true_and]at V2;have L0:=Hj fun w=>tB ((s[0]'hs0).toNat:Int) w;have hab:kC (s[0]'hs0)=kC b:=by rw[hb0]
   rw[rD,hab]at L0;clear hab
   by_cases ha:kC b=true
   ·rw[ha]at L0 V2
    rw[Bool.true_and]at V2
    have V3:Hid (R=(s.data.toList.all iK && !K)):=by
     show _=_;rw[V2,hl,List.all_cons];unfold iK;rw[ha];rfl
    clear V2 hl hb0 ha;go_enter Tryz.func40,Tryz.ntmps40;go_wp2_with fail;refine(L0.out _).mono ?_;rintro e w1 ⟨rfl,rfl⟩;go_wp2_with fail;clear L0
    go_loop [3] (fun s3=>∃k:Nat,s3=.int .i64 (k:Int)∧k≤s.size∧Hid ((s.data.toList.take k).all iK=true)) (fun s3=>s.size-(intOf s3).toNat)
    case atStart=>exact⟨0,rfl,Nat.zero_le _,by show _=_;simp⟩
    case round=>
     obtain⟨k,rfl,hk,H⟩:=hrel
     by_cases hlt:k<s.size
     ·have h1:(k:Int)<(s.size:Int):=by omega
      have L:=Hj fun w=>tB ((s[k]'hlt).toNat:Int) w;have D:=Hj fun w=>aCu ((s[k]'hlt).toNat:Int) w;have AP:=aIU (s[k]'hlt);have hts:=iB s k hlt;have HS':=HS.out
      have bad:iK (s[k]'hlt)=false→Hid (false=R):=fun hx=>by
       show _=_;rw[V3.out]
       have:s.data.toList.all iK=false:=by
        rw[Bool.eq_false_iff];intro h;have:=List.all_eq_true.1 h (s[k]'hlt) (List.mem_of_getElem? (uV s k hlt));rw[hx]at this;cases this
       rw[this];rfl
      have good:iK (s[k]'hlt)=true→Hid ((s.data.toList.take (k+1)).all iK=true):=fun hx=>by
       show _=_;rw[hts,List.all_append,H.out]
       simp[hx]
      generalize hA:alN ((s[k]'hlt).toNat:Int)=A at *;generalize hD:dgN ((s[k]'hlt).toNat:Int)=B at *;clear hA hD hts H;cases A
      ·cases B
       ·have FR:=bad (by rw[AP];rfl)
        clear bad good AP HS';go_wp2_with fail;refine(L.out _).mono ?_;rintro e w1 ⟨rfl,rfl⟩;go_wp2_with fail;refine(D.out _).mono ?_;rintro e w1 ⟨rfl,rfl⟩;go_wp2_with fail;go_ret;exact⟨bD FR.out,rfl⟩
       ·have H2:=good (by rw[AP];rfl)
        clear bad good AP;go_wp2_with fail;refine(L.out _).mono ?_;rintro e w1 ⟨rfl,rfl⟩;go_wp2_with fail;refine(D.out _).mono ?_;rintro e w1 ⟨rfl,rfl⟩;go_wp2_with fail
        go_round
        case rel=>exact⟨k+1,by go_num,by omega,H2⟩
        case measure=>simp[intOf];omega
      ·have H2:=good (by rw[AP];rfl)
       clear bad good AP;go_wp2_with fail;refine(L.out _).mono ?_;rintro e w1 ⟨rfl,rfl⟩;go_wp2_with fail
       go_round
       case rel=>exact⟨k+1,by go_num,by omega,H2⟩
       case measure=>simp[intOf];omega
     ·obtain rfl:k=s.size:=by omega
      have FR:Hid ((!K)=R):=by
       show _=_;have:=H.out;rw[List.take_of_length_le (by rw[←Lib.size_eq];exact aD _)]at this;rw[V3.out,this,Bool.true_and]
      clear H V3;go_wp2_with fail;refine(W.out _).mono ?_;rintro e w1 ⟨rfl,rfl⟩;go_wp2_with fail;go_ret;exact⟨bD FR.out,rfl⟩
   ·have ha':kC b=false:=by simpa using ha
    rw[ha']at L0 V2;have FR:Hid (false=R):=by show _=_;rw[V2];rfl
    clear V2 hl hb0 ha ha';go_enter Tryz.func40,Tryz.ntmps40;go_wp2_with fail;refine(L0.out _).mono ?_;rintro e w1 ⟨rfl,rfl⟩;go_wp2_with fail;go_ret;exact⟨bD FR.out,rfl⟩
  ·have h32':(32:Int)<(s.size:Int):=by omega
   rw[decide_eq_false h32]at V2;have FR:Hid (false=R):=by show _=_;rw[V2];rfl
   clear V2 hl hb0;go_enter Tryz.func40,Tryz.ntmps40;go_wp2_with fail;go_ret;exact⟨bD FR.out,rfl⟩
end Go.Proofs.YtkbicfffokegeaaGreatDoor
