/-
  ParseParses: a source's tree, or what is wrong with it, is the reference's. (part 8 of 38) Conditions: none beside what the card ties.
-/
import Derived.Shelf.LaysM
import Derived.Shelf.Small.Strs
import Derived.Shelf.Small.Wraps
import Derived.Shelf.Strconv.Itoa1
import Derived.Shelf.Strconv.Itoa2
import Derived.Shelf.Strconv.Itoa3
import Derived.Shelf.Strconv.ParseIntPublic10
import Derived.Shelf.Strings.Cut
import Derived.Shelf.Strings.IndexAnyAll
import Derived.Shelf.Strings.Prefix
import Derived.Shelf.Strings.Repeat
import Derived.Shelf.Strings.SplitShaped
import Derived.Shelf.Strings.Trim
import Derived.Test.YthmlhkllbichgaaGreatDoorProg
import Derived.Test.YthmlhkllbichgaaGreatDoorVag
import Derived.Test.YthmlhkllbichgaaGreatDoorVad
import Derived.Test.YthmlhkllbichgaaGreatDoorVab
namespace Go.Proofs.YthmlhkllbichgaaGreatDoor
set_option maxHeartbeats 16000000
open Go.Shelf Go.Proofs
def sh_lays161_ren:Go.Shelf.Ren:=⟨fun|161=>53|231=>91|227=>92|233=>93|235=>94|228=>134|197=>135|151=>136|260=>169|152=>170|137=>142|119=>206|224=>173|225=>172|217=>171|266=>207|n=>n,fun|9=>9|4=>4|3=>3|5=>5|117=>138|116=>137|0=>0|124=>141|105=>174|21=>21|119=>132|46=>190|139=>253|138=>252|n=>n,fun|3=>4|4=>5|n=>n⟩
theorem sh_lays161:Go.Proofs.Lays.n161 Tryz.prog sh_lays161_ren:={
 mixed:=by kernel_rfl
 f119:=Tryz.func206.trans (congrArg some (by kernel_rfl))
 f137:=Tryz.func142.trans (congrArg some (by kernel_rfl))
 f151:=Tryz.func136.trans (congrArg some (by kernel_rfl))
 f152:=Tryz.func170.trans (congrArg some (by kernel_rfl))
 f161:=Tryz.func53.trans (congrArg some (by kernel_rfl))
 f197:=Tryz.func135.trans (congrArg some (by kernel_rfl))
 f217:=Tryz.func171.trans (congrArg some (by kernel_rfl))
 f224:=Tryz.func173.trans (congrArg some (by kernel_rfl))
 f225:=Tryz.func172.trans (congrArg some (by kernel_rfl))
 f227:=Tryz.func92.trans (congrArg some (by kernel_rfl))
 f228:=Tryz.func134.trans (congrArg some (by kernel_rfl))
 f231:=Tryz.func91.trans (congrArg some (by kernel_rfl))
 f233:=Tryz.func93.trans (congrArg some (by kernel_rfl))
 f235:=Tryz.func94.trans (congrArg some (by kernel_rfl))
 f260:=Tryz.func169.trans (congrArg some (by kernel_rfl))
 f266:=Tryz.func207.trans (congrArg some (by kernel_rfl))
 t0:=Tryz.underlying0
 a0:=Tryz.isAgg0
 z0:=Tryz.sizeOf0
 v0:=Tryz.zeroValue0
 t3:=Tryz.underlying3
 a3:=Tryz.isAgg3
 z3:=Tryz.sizeOf3
 v3:=Tryz.zeroValue3
 t4:=Tryz.underlying4
 a4:=Tryz.isAgg4
 z4:=Tryz.sizeOf4
 v4:=Tryz.zeroValue4
 t5:=Tryz.underlying5
 a5:=Tryz.isAgg5
 z5:=Tryz.sizeOf5
 v5:=Tryz.zeroValue5
 t9:=Tryz.underlying9
 a9:=Tryz.isAgg9
 z9:=Tryz.sizeOf9
 v9:=Tryz.zeroValue9
 t21:=Tryz.underlying21
 a21:=Tryz.isAgg21
 z21:=Tryz.sizeOf21
 v21:=Tryz.zeroValue21
 t46:=Tryz.underlying190
 a46:=Tryz.isAgg190
 z46:=Tryz.sizeOf190
 v46:=Tryz.zeroValue190
 t105:=Tryz.underlying174
 a105:=Tryz.isAgg174
 z105:=Tryz.sizeOf174
 v105:=Tryz.zeroValue174
 t116:=Tryz.underlying137
 a116:=Tryz.isAgg137
 z116:=Tryz.sizeOf137
 t117:=Tryz.underlying138
 a117:=Tryz.isAgg138
 z117:=Tryz.sizeOf138
 v117:=Tryz.zeroValue138
 t119:=Tryz.underlying132
 a119:=Tryz.isAgg132
 z119:=Tryz.sizeOf132
 t124:=Tryz.underlying141
 a124:=Tryz.isAgg141
 z124:=Tryz.sizeOf141
 v124:=Tryz.zeroValue141
 t138:=Tryz.underlying252
 a138:=Tryz.isAgg252
 z138:=Tryz.sizeOf252
 v138:=Tryz.zeroValue252
 t139:=Tryz.underlying253
 a139:=Tryz.isAgg253
 z139:=Tryz.sizeOf253
 v139:=Tryz.zeroValue253
 g3:=by kernel_rfl
 g4:=by kernel_rfl }
def sh_lays162_ren:Go.Shelf.Ren:=⟨fun|162=>256|232=>274|227=>92|234=>275|236=>276|228=>134|271=>286|151=>136|120=>293|197=>135|152=>170|260=>169|137=>142|119=>206|224=>173|225=>172|217=>171|266=>207|n=>n,fun|9=>9|4=>4|3=>3|5=>5|117=>138|116=>137|0=>0|124=>141|21=>21|105=>174|46=>190|119=>132|139=>253|138=>252|n=>n,fun|3=>4|4=>5|n=>n⟩
theorem sh_lays162:Go.Proofs.Lays.n162 Tryz.prog sh_lays162_ren:={
 mixed:=by kernel_rfl
 f119:=Tryz.func206.trans (congrArg some (by kernel_rfl))
 f120:=Tryz.func293.trans (congrArg some (by kernel_rfl))
 f137:=Tryz.func142.trans (congrArg some (by kernel_rfl))
 f151:=Tryz.func136.trans (congrArg some (by kernel_rfl))
 f152:=Tryz.func170.trans (congrArg some (by kernel_rfl))
 f162:=Tryz.func256.trans (congrArg some (by kernel_rfl))
 f197:=Tryz.func135.trans (congrArg some (by kernel_rfl))
 f217:=Tryz.func171.trans (congrArg some (by kernel_rfl))
 f224:=Tryz.func173.trans (congrArg some (by kernel_rfl))
 f225:=Tryz.func172.trans (congrArg some (by kernel_rfl))
 f227:=Tryz.func92.trans (congrArg some (by kernel_rfl))
 f228:=Tryz.func134.trans (congrArg some (by kernel_rfl))
 f232:=Tryz.func274.trans (congrArg some (by kernel_rfl))
 f234:=Tryz.func275.trans (congrArg some (by kernel_rfl))
 f236:=Tryz.func276.trans (congrArg some (by kernel_rfl))
 f260:=Tryz.func169.trans (congrArg some (by kernel_rfl))
 f266:=Tryz.func207.trans (congrArg some (by kernel_rfl))
 f271:=Tryz.func286.trans (congrArg some (by kernel_rfl))
 t0:=Tryz.underlying0
 a0:=Tryz.isAgg0
 z0:=Tryz.sizeOf0
 v0:=Tryz.zeroValue0
 t3:=Tryz.underlying3
 a3:=Tryz.isAgg3
 z3:=Tryz.sizeOf3
 v3:=Tryz.zeroValue3
 t4:=Tryz.underlying4
 a4:=Tryz.isAgg4
 z4:=Tryz.sizeOf4
 v4:=Tryz.zeroValue4
 t5:=Tryz.underlying5
 a5:=Tryz.isAgg5
 z5:=Tryz.sizeOf5
 v5:=Tryz.zeroValue5
 t9:=Tryz.underlying9
 a9:=Tryz.isAgg9
 z9:=Tryz.sizeOf9
 v9:=Tryz.zeroValue9
 t21:=Tryz.underlying21
 a21:=Tryz.isAgg21
 z21:=Tryz.sizeOf21
 v21:=Tryz.zeroValue21
 t46:=Tryz.underlying190
 a46:=Tryz.isAgg190
 z46:=Tryz.sizeOf190
 v46:=Tryz.zeroValue190
 t105:=Tryz.underlying174
 a105:=Tryz.isAgg174
 z105:=Tryz.sizeOf174
 v105:=Tryz.zeroValue174
 t116:=Tryz.underlying137
 a116:=Tryz.isAgg137
 z116:=Tryz.sizeOf137
 t117:=Tryz.underlying138
 a117:=Tryz.isAgg138
 z117:=Tryz.sizeOf138
 v117:=Tryz.zeroValue138
 t119:=Tryz.underlying132
 a119:=Tryz.isAgg132
 z119:=Tryz.sizeOf132
 t124:=Tryz.underlying141
 a124:=Tryz.isAgg141
 z124:=Tryz.sizeOf141
 v124:=Tryz.zeroValue141
 t138:=Tryz.underlying252
 a138:=Tryz.isAgg252
 z138:=Tryz.sizeOf252
 v138:=Tryz.zeroValue252
 t139:=Tryz.underlying253
 a139:=Tryz.isAgg253
 z139:=Tryz.sizeOf253
 v139:=Tryz.zeroValue253
 g3:=by kernel_rfl
 g4:=by kernel_rfl }
open Go.RowKit in
theorem sh_strings_TrimRight_one (s:ByteArray)(c:UInt8)(hc:c.toNat<128)(w:World)(hs:s.size≤9223372036854775807) :
  Calls Tryz.prog 256 #[.string s,.string ⟨#[c]⟩] w fun e w'=>e=.returned (.string ⟨(Lib.trimRightB s.data.toList c).toArray⟩)∧w'=w:=Any.strings_TrimRight_one sh_lays162 s c hc w hs
def sh_lays137_ren:Go.Shelf.Ren:=⟨fun|137=>142|217=>171|266=>207|n=>n,fun|9=>9|5=>5|3=>3|n=>n,fun|n=>n⟩
theorem sh_lays137:Go.Proofs.Lays.n137 Tryz.prog sh_lays137_ren:={
 mixed:=by kernel_rfl
 f137:=Tryz.func142.trans (congrArg some (by kernel_rfl))
 f217:=Tryz.func171.trans (congrArg some (by kernel_rfl))
 f266:=Tryz.func207.trans (congrArg some (by kernel_rfl))
 t3:=Tryz.underlying3
 a3:=Tryz.isAgg3
 z3:=Tryz.sizeOf3
 v3:=Tryz.zeroValue3
 t5:=Tryz.underlying5
 a5:=Tryz.isAgg5
 z5:=Tryz.sizeOf5
 v5:=Tryz.zeroValue5
 t9:=Tryz.underlying9
 a9:=Tryz.isAgg9
 z9:=Tryz.sizeOf9
 v9:=Tryz.zeroValue9 }
open Go.RowKit in
theorem sh_strings_IndexByte (s:ByteArray)(c:Int)(w:World) :
  Calls Tryz.prog 142 #[.string s,.int .u8 c] w fun e w'=>e=.returned (.int .i64 (Lib.indexByte s.data.toList c.toNat.toUInt8))∧w'=w:=Any.strings_IndexByte sh_lays137 s c w
def sh_lays103_ren:Go.Shelf.Ren:=⟨fun|103=>138|210=>175|206=>95|n=>n,fun|9=>9|4=>4|24=>178|3=>3|n=>n,fun|n=>n⟩
theorem sh_lays103:Go.Proofs.Lays.n103 Tryz.prog sh_lays103_ren:={
 mixed:=by kernel_rfl
 f103:=Tryz.func138.trans (congrArg some (by kernel_rfl))
 f206:=Tryz.func95.trans (congrArg some (by kernel_rfl))
 f210:=Tryz.func175.trans (congrArg some (by kernel_rfl))
 t3:=Tryz.underlying3
 a3:=Tryz.isAgg3
 z3:=Tryz.sizeOf3
 v3:=Tryz.zeroValue3
 t4:=Tryz.underlying4
 a4:=Tryz.isAgg4
 z4:=Tryz.sizeOf4
 v4:=Tryz.zeroValue4
 t9:=Tryz.underlying9
 a9:=Tryz.isAgg9
 z9:=Tryz.sizeOf9
 v9:=Tryz.zeroValue9
 t24:=Tryz.underlying178
 a24:=Tryz.isAgg178
 z24:=Tryz.sizeOf178
 v24:=Tryz.zeroValue178 }
open Go.RowKit in
theorem sh_strings_CutPrefix (s p:ByteArray)(w:World) :
  Calls Tryz.prog 138 #[.string s,.string p] w fun e w'=>e=.returned (.tuple #[.string ⟨(Lib.trimPrefix s.data.toList p.data.toList).toArray⟩,.bool (Lib.hasPrefix s.data.toList p.data.toList)])∧w'=w:=Any.strings_CutPrefix sh_lays103 s p w
def sh_lays283_ren:Go.Shelf.Ren:=⟨fun|283=>220|n=>n,fun|3=>3|9=>9|4=>4|n=>n,fun|n=>n⟩
theorem sh_lays283:Go.Proofs.Lays.n283 Tryz.prog sh_lays283_ren:={
 mixed:=by kernel_rfl
 f283:=Tryz.func220.trans (congrArg some (by kernel_rfl))
 t3:=Tryz.underlying3
 a3:=Tryz.isAgg3
 z3:=Tryz.sizeOf3
 v3:=Tryz.zeroValue3
 t4:=Tryz.underlying4
 a4:=Tryz.isAgg4
 z4:=Tryz.sizeOf4
 v4:=Tryz.zeroValue4
 t9:=Tryz.underlying9
 a9:=Tryz.isAgg9
 z9:=Tryz.sizeOf9
 v9:=Tryz.zeroValue9 }
open Go.Lib in
theorem sh_internal_strconv_small (i:Nat)(h:i<100)(w:World) :
  Calls Tryz.prog 220 #[.int .i64 i] w fun e w'=>e=.returned (.string ⟨(Lib.decDigits i).toArray⟩)∧w'=w:=Any.internal_strconv_small sh_lays283 i h w
def sh_laysM284_ren:Go.Shelf.Ren:=⟨fun|284=>221|129=>192|317=>246|318=>247|n=>n,fun|53=>37|3=>3|212=>289|0=>0|4=>4|46=>190|5=>5|9=>9|n=>n,fun|17=>8|n=>n⟩
theorem sh_laysM284:Go.Proofs.LaysM.n284 Tryz.prog sh_laysM284_ren:={
 mixed:=by kernel_rfl
 f129:=Tryz.func192.trans (congrArg some (by kernel_rfl))
 f284:=Tryz.func221.trans (congrArg some (by kernel_rfl))
 f317:=Tryz.func246.trans (congrArg some (by kernel_rfl))
 f318:=Tryz.func247.trans (congrArg some (by kernel_rfl))
 t0:=Tryz.underlying0
 a0:=Tryz.isAgg0
 z0:=Tryz.sizeOf0
 v0:=Tryz.zeroValue0
 t3:=Tryz.underlying3
 a3:=Tryz.isAgg3
 z3:=Tryz.sizeOf3
 v3:=Tryz.zeroValue3
 t4:=Tryz.underlying4
 a4:=Tryz.isAgg4
 z4:=Tryz.sizeOf4
 v4:=Tryz.zeroValue4
 t5:=Tryz.underlying5
 a5:=Tryz.isAgg5
 z5:=Tryz.sizeOf5
 v5:=Tryz.zeroValue5
 t9:=Tryz.underlying9
 a9:=Tryz.isAgg9
 z9:=Tryz.sizeOf9
 v9:=Tryz.zeroValue9
 t46:=Tryz.underlying190
 a46:=Tryz.isAgg190
 z46:=Tryz.sizeOf190
 v46:=Tryz.zeroValue190
 t53:=Tryz.underlying37
 a53:=Tryz.isAgg37
 z53:=Tryz.sizeOf37
 v53:=Tryz.zeroValue37
 t212:=Tryz.underlying289
 a212:=Tryz.isAgg289
 z212:=Tryz.sizeOf289
 v212:=Tryz.zeroValue289
 g17:=by kernel_rfl
 i0:=by kernel_rfl
 i3:=by kernel_rfl
 i4:=by kernel_rfl
 i5:=by kernel_rfl
 i9:=by kernel_rfl
 i46:=by kernel_rfl
 i53:=by kernel_rfl
 i212:=by kernel_rfl
 m17:=by kernel_rfl }
open Go.Lib in
theorem sh_internal_strconv_numDigits (u:Nat)(h1:1≤u)(h2:u<18446744073709551616)(w:World)(htab:Lib.TabIs Tryz.prog w "internal/strconv.uint64pow10" .u64 Lib.pow10Tab) :
  Calls Tryz.prog 221 #[.int .u64 u] w fun e w'=>e=.returned (.int .i64 (Lib.nDigits u))∧w'=w:=Any.internal_strconv_numDigits sh_laysM284 u h1 h2 w htab
def sh_lays285_ren:Go.Shelf.Ren:=⟨fun|285=>222|n=>n,fun|37=>85|53=>37|3=>3|4=>4|51=>170|9=>9|5=>5|0=>0|n=>n,fun|n=>n⟩
theorem sh_lays285:Go.Proofs.Lays.n285 Tryz.prog sh_lays285_ren:={
 mixed:=by kernel_rfl
 f285:=Tryz.func222.trans (congrArg some (by kernel_rfl))
 t0:=Tryz.underlying0
 a0:=Tryz.isAgg0
 z0:=Tryz.sizeOf0
 v0:=Tryz.zeroValue0
 t3:=Tryz.underlying3
 a3:=Tryz.isAgg3
 z3:=Tryz.sizeOf3
 v3:=Tryz.zeroValue3
 t4:=Tryz.underlying4
 a4:=Tryz.isAgg4
 z4:=Tryz.sizeOf4
 v4:=Tryz.zeroValue4
 t5:=Tryz.underlying5
 a5:=Tryz.isAgg5
 z5:=Tryz.sizeOf5
 v5:=Tryz.zeroValue5
 t9:=Tryz.underlying9
 a9:=Tryz.isAgg9
 z9:=Tryz.sizeOf9
 v9:=Tryz.zeroValue9
 t37:=Tryz.underlying85
 a37:=Tryz.isAgg85
 z37:=Tryz.sizeOf85
 v37:=Tryz.zeroValue85
 t51:=Tryz.underlying170
 a51:=Tryz.isAgg170
 z51:=Tryz.sizeOf170
 v51:=Tryz.zeroValue170
 t53:=Tryz.underlying37
 a53:=Tryz.isAgg37
 z53:=Tryz.sizeOf37
 v53:=Tryz.zeroValue37 }
open Go.RowKit Go.Sort Go.Lib in
theorem sh_internal_strconv_formatBase10 (blk off cap:Nat)(u:Nat)(d:Array UInt8)(w:World)(hH:Holds (fun(b:UInt8)=>Value.int .u8 (b.toNat:Int)) w blk off d)(hu:u<10 ^ d.size)(hu64:u<18446744073709551616)(hsz:d.size<4611686018427387904) :
  Calls Tryz.prog 222 #[.slice (some ⟨blk,off,none⟩) d.size cap,.int .u64 u] w fun e w'=>
   e=.returned (.tuple #[])∧∃(n v':Nat) (dk:Array UInt8),w'=(putRow (fun(b:UInt8)=>Value.int .u8 (b.toNat:Int)) w blk off dk).drewN n∧FmtInv d.size u 0 v' dk:=Any.internal_strconv_formatBase10 sh_lays285 blk off cap u d w hH hu hu64 hsz
def sh_laysM171_ren:Go.Shelf.Ren:=⟨fun|171=>122|243=>156|246=>189|283=>220|284=>221|285=>222|286=>223|129=>192|317=>246|318=>247|319=>248|320=>249|337=>270|338=>271|n=>n,fun|3=>3|9=>9|2=>2|4=>4|171=>261|0=>0|53=>37|37=>85|5=>5|173=>263|212=>289|51=>170|20=>20|213=>290|46=>190|232=>313|233=>314|n=>n,fun|17=>8|18=>10|19=>11|n=>n⟩
theorem sh_laysM171:Go.Proofs.LaysM.n171 Tryz.prog sh_laysM171_ren:={
 mixed:=by kernel_rfl
 f129:=Tryz.func192.trans (congrArg some (by kernel_rfl))
 f171:=Tryz.func122.trans (congrArg some (by kernel_rfl))
 f243:=Tryz.func156.trans (congrArg some (by kernel_rfl))
 f246:=Tryz.func189.trans (congrArg some (by kernel_rfl))
 f283:=Tryz.func220.trans (congrArg some (by kernel_rfl))
 f284:=Tryz.func221.trans (congrArg some (by kernel_rfl))
 f285:=Tryz.func222.trans (congrArg some (by kernel_rfl))
 f286:=Tryz.func223.trans (congrArg some (by kernel_rfl))
 f317:=Tryz.func246.trans (congrArg some (by kernel_rfl))
 f318:=Tryz.func247.trans (congrArg some (by kernel_rfl))
 f319:=Tryz.func248.trans (congrArg some (by kernel_rfl))
 f320:=Tryz.func249.trans (congrArg some (by kernel_rfl))
 f337:=Tryz.func270.trans (congrArg some (by kernel_rfl))
 f338:=Tryz.func271.trans (congrArg some (by kernel_rfl))
 t0:=Tryz.underlying0
 a0:=Tryz.isAgg0
 z0:=Tryz.sizeOf0
 v0:=Tryz.zeroValue0
 t2:=Tryz.underlying2
 a2:=Tryz.isAgg2
 z2:=Tryz.sizeOf2
 v2:=Tryz.zeroValue2
 t3:=Tryz.underlying3
 a3:=Tryz.isAgg3
 z3:=Tryz.sizeOf3
 v3:=Tryz.zeroValue3
 t4:=Tryz.underlying4
 a4:=Tryz.isAgg4
 z4:=Tryz.sizeOf4
 v4:=Tryz.zeroValue4
 t5:=Tryz.underlying5
 a5:=Tryz.isAgg5
 z5:=Tryz.sizeOf5
 v5:=Tryz.zeroValue5
 t9:=Tryz.underlying9
 a9:=Tryz.isAgg9
 z9:=Tryz.sizeOf9
 v9:=Tryz.zeroValue9
 t20:=Tryz.underlying20
 a20:=Tryz.isAgg20
 z20:=Tryz.sizeOf20
 v20:=Tryz.zeroValue20
 t37:=Tryz.underlying85
 a37:=Tryz.isAgg85
 z37:=Tryz.sizeOf85
 v37:=Tryz.zeroValue85
 t46:=Tryz.underlying190
 a46:=Tryz.isAgg190
 z46:=Tryz.sizeOf190
 v46:=Tryz.zeroValue190
 t51:=Tryz.underlying170
 a51:=Tryz.isAgg170
 z51:=Tryz.sizeOf170
 v51:=Tryz.zeroValue170
 t53:=Tryz.underlying37
 a53:=Tryz.isAgg37
 z53:=Tryz.sizeOf37
 v53:=Tryz.zeroValue37
 t171:=Tryz.underlying261
 a171:=Tryz.isAgg261
 z171:=Tryz.sizeOf261
 v171:=Tryz.zeroValue261
 t173:=Tryz.underlying263
 a173:=Tryz.isAgg263
 z173:=Tryz.sizeOf263
 v173:=Tryz.zeroValue263
 t212:=Tryz.underlying289
 a212:=Tryz.isAgg289
 z212:=Tryz.sizeOf289
 v212:=Tryz.zeroValue289
 t213:=Tryz.underlying290
 a213:=Tryz.isAgg290
 z213:=Tryz.sizeOf290
 t232:=Tryz.underlying313
 a232:=Tryz.isAgg313
 z232:=Tryz.sizeOf313
 v232:=Tryz.zeroValue313
 t233:=Tryz.underlying314
 a233:=Tryz.isAgg314
 z233:=Tryz.sizeOf314
 v233:=Tryz.zeroValue314
 g17:=by kernel_rfl
 g18:=by kernel_rfl
 g19:=by kernel_rfl
 i0:=by kernel_rfl
 i2:=by kernel_rfl
 i3:=by kernel_rfl
 i4:=by kernel_rfl
 i5:=by kernel_rfl
 i9:=by kernel_rfl
 i20:=by kernel_rfl
 i37:=by kernel_rfl
 i46:=by kernel_rfl
 i51:=by kernel_rfl
 i53:=by kernel_rfl
 i171:=by kernel_rfl
 i173:=by kernel_rfl
 i212:=by kernel_rfl
 i232:=by kernel_rfl
 i233:=by kernel_rfl
 m17:=by kernel_rfl
 m18:=by kernel_rfl
 m19:=by kernel_rfl }
open Go.RowKit Go.Sort Go.Lib in
theorem sh_strconv_Itoa (n:Int)(h0:-9223372036854775808≤n)(h1:n≤9223372036854775807)(w:World)(htab:Lib.TabIs Tryz.prog w "internal/strconv.uint64pow10" .u64 Lib.pow10Tab) :
  Calls Tryz.prog 122 #[.int .i64 n] w fun e w'=>e=.returned (.string ⟨(Lib.itoa n).toArray⟩)∧∃k os,w'=grow (w.drewN k) os:=Any.strconv_Itoa sh_laysM171 n h0 h1 w htab
def sh_laysC174_ren:Go.Shelf.Ren:=⟨fun|174=>103|247=>140|245=>141|287=>177|279=>178|280=>179|281=>180|282=>181|321=>212|322=>213|316=>214|171=>122|205=>215|243=>156|246=>189|283=>220|284=>221|285=>222|286=>223|129=>192|317=>246|318=>247|319=>248|320=>249|337=>270|338=>271|n=>n,fun|9=>9|3=>3|2=>2|75=>120|85=>143|4=>4|167=>215|5=>5|53=>37|175=>216|46=>190|168=>218|37=>85|0=>0|210=>259|21=>21|127=>126|145=>287|143=>285|171=>261|173=>263|212=>289|51=>170|20=>20|213=>290|232=>313|233=>314|80=>91|n=>n,fun|15=>6|16=>7|17=>8|18=>10|19=>11|n=>n⟩
theorem sh_laysC174:Go.Proofs.LaysC.n174 Tryz.prog sh_laysC174_ren:={
 mixed:=by kernel_rfl
 f129:=Tryz.func192.trans (congrArg some (by kernel_rfl))
 f171:=Tryz.func122.trans (congrArg some (by kernel_rfl))
 f174:=Tryz.func103.trans (congrArg some (by kernel_rfl))
 f205:=Tryz.func215.trans (congrArg some (by kernel_rfl))
 f243:=Tryz.func156.trans (congrArg some (by kernel_rfl))
 f245:=Tryz.func141.trans (congrArg some (by kernel_rfl))
 f246:=Tryz.func189.trans (congrArg some (by kernel_rfl))
 f247:=Tryz.func140.trans (congrArg some (by kernel_rfl))
 f279:=Tryz.func178.trans (congrArg some (by kernel_rfl))
 f280:=Tryz.func179.trans (congrArg some (by kernel_rfl))
 f281:=Tryz.func180.trans (congrArg some (by kernel_rfl))
 f282:=Tryz.func181.trans (congrArg some (by kernel_rfl))
 f283:=Tryz.func220.trans (congrArg some (by kernel_rfl))
 f284:=Tryz.func221.trans (congrArg some (by kernel_rfl))
 f285:=Tryz.func222.trans (congrArg some (by kernel_rfl))
 f286:=Tryz.func223.trans (congrArg some (by kernel_rfl))
 f287:=Tryz.func177.trans (congrArg some (by kernel_rfl))
 f316:=Tryz.func214.trans (congrArg some (by kernel_rfl))
 f317:=Tryz.func246.trans (congrArg some (by kernel_rfl))
 f318:=Tryz.func247.trans (congrArg some (by kernel_rfl))
 f319:=Tryz.func248.trans (congrArg some (by kernel_rfl))
 f320:=Tryz.func249.trans (congrArg some (by kernel_rfl))
 f321:=Tryz.func212.trans (congrArg some (by kernel_rfl))
 f322:=Tryz.func213.trans (congrArg some (by kernel_rfl))
 f337:=Tryz.func270.trans (congrArg some (by kernel_rfl))
 f338:=Tryz.func271.trans (congrArg some (by kernel_rfl))
 t0:=Tryz.underlying0
 a0:=Tryz.isAgg0
 z0:=Tryz.sizeOf0
 v0:=Tryz.zeroValue0
 t2:=Tryz.underlying2
 a2:=Tryz.isAgg2
 z2:=Tryz.sizeOf2
 v2:=Tryz.zeroValue2
 t3:=Tryz.underlying3
 a3:=Tryz.isAgg3
 z3:=Tryz.sizeOf3
 v3:=Tryz.zeroValue3
 t4:=Tryz.underlying4
 a4:=Tryz.isAgg4
 z4:=Tryz.sizeOf4
 v4:=Tryz.zeroValue4
 t5:=Tryz.underlying5
 a5:=Tryz.isAgg5
 z5:=Tryz.sizeOf5
 v5:=Tryz.zeroValue5
 t9:=Tryz.underlying9
 a9:=Tryz.isAgg9
 z9:=Tryz.sizeOf9
 v9:=Tryz.zeroValue9
 t20:=Tryz.underlying20
 a20:=Tryz.isAgg20
 z20:=Tryz.sizeOf20
 v20:=Tryz.zeroValue20
 t21:=Tryz.underlying21
 a21:=Tryz.isAgg21
 z21:=Tryz.sizeOf21
 v21:=Tryz.zeroValue21
 t37:=Tryz.underlying85
 a37:=Tryz.isAgg85
 z37:=Tryz.sizeOf85
 v37:=Tryz.zeroValue85
 t46:=Tryz.underlying190
 a46:=Tryz.isAgg190
 z46:=Tryz.sizeOf190
 v46:=Tryz.zeroValue190
 t51:=Tryz.underlying170
 a51:=Tryz.isAgg170
 z51:=Tryz.sizeOf170
 v51:=Tryz.zeroValue170
 t53:=Tryz.underlying37
 a53:=Tryz.isAgg37
 z53:=Tryz.sizeOf37
 v53:=Tryz.zeroValue37
 t75:=Tryz.underlying120
 a75:=Tryz.isAgg120
 z75:=Tryz.sizeOf120
 v75:=Tryz.zeroValue120
 t85:=Tryz.underlying143
 a85:=Tryz.isAgg143
 z85:=Tryz.sizeOf143
 v85:=Tryz.zeroValue143
 t127:=Tryz.underlying126
 a127:=Tryz.isAgg126
 z127:=Tryz.sizeOf126
 v127:=Tryz.zeroValue126
 t143:=Tryz.underlying285
 a143:=Tryz.isAgg285
 z143:=Tryz.sizeOf285
 v143:=Tryz.zeroValue285
 t145:=Tryz.underlying287
 a145:=Tryz.isAgg287
 z145:=Tryz.sizeOf287
 v145:=Tryz.zeroValue287
 t167:=Tryz.underlying215
 a167:=Tryz.isAgg215
 z167:=Tryz.sizeOf215
 v167:=Tryz.zeroValue215
 t168:=Tryz.underlying218
 a168:=Tryz.isAgg218
 z168:=Tryz.sizeOf218
 v168:=Tryz.zeroValue218
 t171:=Tryz.underlying261
 a171:=Tryz.isAgg261
 z171:=Tryz.sizeOf261
 v171:=Tryz.zeroValue261
 t173:=Tryz.underlying263
 a173:=Tryz.isAgg263
 z173:=Tryz.sizeOf263
 v173:=Tryz.zeroValue263
 t175:=Tryz.underlying216
 a175:=Tryz.isAgg216
 z175:=Tryz.sizeOf216
 v175:=Tryz.zeroValue216
 t210:=Tryz.underlying259
 a210:=Tryz.isAgg259
 z210:=Tryz.sizeOf259
 v210:=Tryz.zeroValue259
 t212:=Tryz.underlying289
 a212:=Tryz.isAgg289
 z212:=Tryz.sizeOf289
 v212:=Tryz.zeroValue289
 t213:=Tryz.underlying290
 a213:=Tryz.isAgg290
 z213:=Tryz.sizeOf290
 t232:=Tryz.underlying313
 a232:=Tryz.isAgg313
 z232:=Tryz.sizeOf313
 v232:=Tryz.zeroValue313
 t233:=Tryz.underlying314
 a233:=Tryz.isAgg314
 z233:=Tryz.sizeOf314
 v233:=Tryz.zeroValue314
 g15:=by kernel_rfl
 g16:=by kernel_rfl
 g17:=by kernel_rfl
 g18:=by kernel_rfl
 g19:=by kernel_rfl
 t80:=Tryz.underlying91
 a80:=Tryz.isAgg91
 z80:=Tryz.sizeOf91
 v80:=Tryz.zeroValue91
 i0:=by kernel_rfl
 i2:=by kernel_rfl
 i3:=by kernel_rfl
 i4:=by kernel_rfl
 i5:=by kernel_rfl
 i9:=by kernel_rfl
 i20:=by kernel_rfl
 i21:=by kernel_rfl
 i37:=by kernel_rfl
 i46:=by kernel_rfl
 i51:=by kernel_rfl
 i53:=by kernel_rfl
 i75:=by kernel_rfl
 i80:=by kernel_rfl
 i85:=by kernel_rfl
 i127:=by kernel_rfl
 i143:=by kernel_rfl
 i145:=by kernel_rfl
 i167:=by kernel_rfl
 i168:=by kernel_rfl
 i171:=by kernel_rfl
 i173:=by kernel_rfl
 i175:=by kernel_rfl
 i210:=by kernel_rfl
 i212:=by kernel_rfl
 i232:=by kernel_rfl
 i233:=by kernel_rfl
 m15:=by kernel_rfl
 m16:=by kernel_rfl
 m17:=by kernel_rfl
 m18:=by kernel_rfl
 m19:=by kernel_rfl
 c0:=by kernel_rfl
 c2:=by kernel_rfl
 c3:=by kernel_rfl
 c4:=by kernel_rfl
 c5:=by kernel_rfl
 c9:=by kernel_rfl
 c20:=by kernel_rfl
 c21:=by kernel_rfl
 c37:=by kernel_rfl
 c46:=by kernel_rfl
 c51:=by kernel_rfl
 c53:=by kernel_rfl
 c75:=by kernel_rfl
 c80:=by kernel_rfl
 c85:=by kernel_rfl
 c127:=by kernel_rfl
 c143:=by kernel_rfl
 c145:=by kernel_rfl
 c167:=by kernel_rfl
 c168:=by kernel_rfl
 c171:=by kernel_rfl
 c173:=by kernel_rfl
 c175:=by kernel_rfl
 c210:=by kernel_rfl
 c212:=by kernel_rfl
 c213:=by kernel_rfl
 c232:=by kernel_rfl
 c233:=by kernel_rfl }
open Go.RowKit in
theorem sh_strconv_ParseInt_10_at32_ok (s:ByteArray)(hmax:s.size≤9223372036854775806)(v:Int)(h:Lib.parseIntB 32 s.data.toList=.ok v)(w:World) :
  Calls Tryz.prog 103 #[.string s,.int .i64 10,.int .i64 32] w fun e w'=>e=.returned (.tuple #[.int .i64 v,.nilIface])∧(w'=w∨∃t,w'=Lib.bytesWorld w 5 t):=Any.strconv_ParseInt_10_at32_ok sh_laysC174 s hmax v h w
open Go.RowKit in
theorem sh_strconv_ParseInt_10_at32_range (s:ByteArray)(hlim:s.size≤281474976710656)(h:Lib.parseIntB 32 s.data.toList=.range)(ev:Value)(w:World)(hv:w.cell? ⟨7,0,none⟩=some ev)(hev:ev=.nilIface∨∃te pe,ev=.iface te pe) :
  Calls Tryz.prog 103 #[.string s,.int .i64 10,.int .i64 32] w fun e w'=>∃N,e=.returned (.tuple #[.int .i64 (Lib.intSat 32 s.data.toList),.iface 218 (.pointer (some ⟨N,0,none⟩))])∧w.heap.size≤N∧w'.heap[N]? = some (.cells #[.string ⟨#[80,97,114,115,101,73,110,116]⟩,.string s,ev] 259 (0,0))∧Below w.heap.size w w':=Any.strconv_ParseInt_10_at32_range sh_laysC174 s hlim h ev w hv hev
def sh_lays145_ren:Go.Shelf.Ren:=⟨fun|145=>55|220=>96|219=>137|217=>171|225=>172|224=>173|267=>174|266=>207|314=>208|n=>n,fun|9=>9|4=>4|59=>102|3=>3|5=>5|46=>190|146=>254|51=>170|n=>n,fun|1=>3|n=>n⟩
theorem sh_lays145:Go.Proofs.Lays.n145 Tryz.prog sh_lays145_ren:={
 mixed:=by kernel_rfl
 f145:=Tryz.func55.trans (congrArg some (by kernel_rfl))
 f217:=Tryz.func171.trans (congrArg some (by kernel_rfl))
 f219:=Tryz.func137.trans (congrArg some (by kernel_rfl))
 f220:=Tryz.func96.trans (congrArg some (by kernel_rfl))
 f224:=Tryz.func173.trans (congrArg some (by kernel_rfl))
 f225:=Tryz.func172.trans (congrArg some (by kernel_rfl))
 f266:=Tryz.func207.trans (congrArg some (by kernel_rfl))
 f267:=Tryz.func174.trans (congrArg some (by kernel_rfl))
 f314:=Tryz.func208.trans (congrArg some (by kernel_rfl))
 t3:=Tryz.underlying3
 a3:=Tryz.isAgg3
 z3:=Tryz.sizeOf3
 v3:=Tryz.zeroValue3
 t4:=Tryz.underlying4
 a4:=Tryz.isAgg4
 z4:=Tryz.sizeOf4
 v4:=Tryz.zeroValue4
 t5:=Tryz.underlying5
 a5:=Tryz.isAgg5
 z5:=Tryz.sizeOf5
 v5:=Tryz.zeroValue5
 t9:=Tryz.underlying9
 a9:=Tryz.isAgg9
 z9:=Tryz.sizeOf9
 v9:=Tryz.zeroValue9
 t46:=Tryz.underlying190
 a46:=Tryz.isAgg190
 z46:=Tryz.sizeOf190
 v46:=Tryz.zeroValue190
 t51:=Tryz.underlying170
 a51:=Tryz.isAgg170
 z51:=Tryz.sizeOf170
 v51:=Tryz.zeroValue170
 t59:=Tryz.underlying102
 a59:=Tryz.isAgg102
 z59:=Tryz.sizeOf102
 v59:=Tryz.zeroValue102
 t146:=Tryz.underlying254
 a146:=Tryz.isAgg254
 z146:=Tryz.sizeOf254
 v146:=Tryz.zeroValue254
 g1:=by kernel_rfl }
open Go.RowKit Go.Lib in
theorem sh_strings_Cut (s sep:ByteArray)(m:Int)(w:World)(hs:s.size<4294967281)(hm:w.cell? ⟨3,0,none⟩=some (.int .i64 m)) :
  Calls Tryz.prog 55 #[.string s,.string sep] w fun e w'=>e=.returned (.tuple #[.string ⟨(Lib.cut s.data.toList sep.data.toList).1.toArray⟩,.string ⟨(Lib.cut s.data.toList sep.data.toList).2.1.toArray⟩,.bool (Lib.cut s.data.toList sep.data.toList).2.2])∧∃n,w'=w.drewN n:=Any.strings_Cut sh_lays145 s sep m w hs hm
def sh_lays99_ren:Go.Shelf.Ren:=⟨fun|99=>54|206=>95|n=>n,fun|9=>9|4=>4|3=>3|n=>n,fun|n=>n⟩
theorem sh_lays99:Go.Proofs.Lays.n99 Tryz.prog sh_lays99_ren:={
 mixed:=by kernel_rfl
 f99:=Tryz.func54.trans (congrArg some (by kernel_rfl))
 f206:=Tryz.func95.trans (congrArg some (by kernel_rfl))
 t3:=Tryz.underlying3
 a3:=Tryz.isAgg3
 z3:=Tryz.sizeOf3
 v3:=Tryz.zeroValue3
 t4:=Tryz.underlying4
 a4:=Tryz.isAgg4
 z4:=Tryz.sizeOf4
 v4:=Tryz.zeroValue4
 t9:=Tryz.underlying9
 a9:=Tryz.isAgg9
 z9:=Tryz.sizeOf9
 v9:=Tryz.zeroValue9 }
open Go.RowKit Go.Lib in
theorem sh_strings_HasPrefix (s p:ByteArray)(w:World) :
  Calls Tryz.prog 54 #[.string s,.string p] w fun e w'=>e=.returned (.bool (Lib.hasPrefix s.data.toList p.data.toList))∧w'=w:=Any.strings_HasPrefix sh_lays99 s p w
def sh_lays101_ren:Go.Shelf.Ren:=⟨fun|101=>243|208=>266|206=>95|n=>n,fun|9=>9|4=>4|3=>3|n=>n,fun|n=>n⟩
theorem sh_lays101:Go.Proofs.Lays.n101 Tryz.prog sh_lays101_ren:={
 mixed:=by kernel_rfl
 f101:=Tryz.func243.trans (congrArg some (by kernel_rfl))
 f206:=Tryz.func95.trans (congrArg some (by kernel_rfl))
 f208:=Tryz.func266.trans (congrArg some (by kernel_rfl))
 t3:=Tryz.underlying3
 a3:=Tryz.isAgg3
 z3:=Tryz.sizeOf3
 v3:=Tryz.zeroValue3
 t4:=Tryz.underlying4
 a4:=Tryz.isAgg4
 z4:=Tryz.sizeOf4
 v4:=Tryz.zeroValue4
 t9:=Tryz.underlying9
 a9:=Tryz.isAgg9
 z9:=Tryz.sizeOf9
 v9:=Tryz.zeroValue9 }
open Go.RowKit Go.Lib in
theorem sh_strings_TrimPrefix (s p:ByteArray)(w:World) :
  Calls Tryz.prog 243 #[.string s,.string p] w fun e w'=>e=.returned (.string ⟨(Lib.trimPrefix s.data.toList p.data.toList).toArray⟩)∧w'=w:=Any.strings_TrimPrefix sh_lays101 s p w
def sh_laysM157_ren:Go.Shelf.Ren:=⟨fun|157=>52|229=>89|199=>90|261=>133|311=>167|312=>168|n=>n,fun|9=>9|31=>98|3=>3|5=>5|4=>4|119=>132|0=>0|40=>134|152=>167|21=>21|154=>169|51=>170|141=>172|196=>203|193=>200|198=>206|49=>204|194=>201|201=>209|226=>249|46=>190|227=>250|n=>n,fun|0=>0|6=>2|n=>n⟩
theorem sh_laysM157:Go.Proofs.LaysM.n157 Tryz.prog sh_laysM157_ren:={
 mixed:=by kernel_rfl
 f157:=Tryz.func52.trans (congrArg some (by kernel_rfl))
 f199:=Tryz.func90.trans (congrArg some (by kernel_rfl))
 f229:=Tryz.func89.trans (congrArg some (by kernel_rfl))
 f261:=Tryz.func133.trans (congrArg some (by kernel_rfl))
 f311:=Tryz.func167.trans (congrArg some (by kernel_rfl))
 f312:=Tryz.func168.trans (congrArg some (by kernel_rfl))
 t0:=Tryz.underlying0
 a0:=Tryz.isAgg0
 z0:=Tryz.sizeOf0
 v0:=Tryz.zeroValue0
 t3:=Tryz.underlying3
 a3:=Tryz.isAgg3
 z3:=Tryz.sizeOf3
 v3:=Tryz.zeroValue3
 t4:=Tryz.underlying4
 a4:=Tryz.isAgg4
 z4:=Tryz.sizeOf4
 v4:=Tryz.zeroValue4
 t5:=Tryz.underlying5
 a5:=Tryz.isAgg5
 z5:=Tryz.sizeOf5
 v5:=Tryz.zeroValue5
 t9:=Tryz.underlying9
 a9:=Tryz.isAgg9
 z9:=Tryz.sizeOf9
 v9:=Tryz.zeroValue9
 t21:=Tryz.underlying21
 a21:=Tryz.isAgg21
 z21:=Tryz.sizeOf21
 v21:=Tryz.zeroValue21
 t31:=Tryz.underlying98
 a31:=Tryz.isAgg98
 z31:=Tryz.sizeOf98
 v31:=Tryz.zeroValue98
 t40:=Tryz.underlying134
 a40:=Tryz.isAgg134
 z40:=Tryz.sizeOf134
 v40:=Tryz.zeroValue134
 t46:=Tryz.underlying190
 a46:=Tryz.isAgg190
 z46:=Tryz.sizeOf190
 v46:=Tryz.zeroValue190
 t49:=Tryz.underlying204
 a49:=Tryz.isAgg204
 z49:=Tryz.sizeOf204
 v49:=Tryz.zeroValue204
 t51:=Tryz.underlying170
 a51:=Tryz.isAgg170
 z51:=Tryz.sizeOf170
 v51:=Tryz.zeroValue170
 t119:=Tryz.underlying132
 a119:=Tryz.isAgg132
 z119:=Tryz.sizeOf132
 t141:=Tryz.underlying172
 a141:=Tryz.isAgg172
 z141:=Tryz.sizeOf172
 v141:=Tryz.zeroValue172
 t152:=Tryz.underlying167
 a152:=Tryz.isAgg167
 z152:=Tryz.sizeOf167
 v152:=Tryz.zeroValue167
 t154:=Tryz.underlying169
 a154:=Tryz.isAgg169
 z154:=Tryz.sizeOf169
 v154:=Tryz.zeroValue169
 t193:=Tryz.underlying200
 a193:=Tryz.isAgg200
 z193:=Tryz.sizeOf200
 v193:=Tryz.zeroValue200
 t194:=Tryz.underlying201
 a194:=Tryz.isAgg201
 z194:=Tryz.sizeOf201
 v194:=Tryz.zeroValue201
 t196:=Tryz.underlying203
 a196:=Tryz.isAgg203
 z196:=Tryz.sizeOf203
 v196:=Tryz.zeroValue203
 t198:=Tryz.underlying206
 a198:=Tryz.isAgg206
 z198:=Tryz.sizeOf206
 v198:=Tryz.zeroValue206
 t201:=Tryz.underlying209
 a201:=Tryz.isAgg209
 z201:=Tryz.sizeOf209
 v201:=Tryz.zeroValue209
 t226:=Tryz.underlying249
 a226:=Tryz.isAgg249
 z226:=Tryz.sizeOf249
 v226:=Tryz.zeroValue249
 t227:=Tryz.underlying250
 a227:=Tryz.isAgg250
 z227:=Tryz.sizeOf250
 v227:=Tryz.zeroValue250
 g0:=by kernel_rfl
 g6:=by kernel_rfl
 i0:=by kernel_rfl
 i3:=by kernel_rfl
 i4:=by kernel_rfl
 i5:=by kernel_rfl
 i9:=by kernel_rfl
 i21:=by kernel_rfl
 i31:=by kernel_rfl
 i40:=by kernel_rfl
 i46:=by kernel_rfl
 i49:=by kernel_rfl
 i51:=by kernel_rfl
 i141:=by kernel_rfl
 i152:=by kernel_rfl
 i154:=by kernel_rfl
 i193:=by kernel_rfl
 i194:=by kernel_rfl
 i196:=by kernel_rfl
 i198:=by kernel_rfl
 i201:=by kernel_rfl
 i226:=by kernel_rfl
 i227:=by kernel_rfl
 m0:=by kernel_rfl
 m6:=by kernel_rfl }
open Go.RowKit Go.Lib in
theorem sh_strings_Fields_laid (s:ByteArray)(w:World)(hs:s.size<4294967281)(hascii:∀(j:Nat) b,s.data.toList[j]? = some b→b.toNat<128)(htab:Lib.TabIs Tryz.prog w "strings.asciiSpace" .u8 Lib.asciiSpaceTab) :
  Calls Tryz.prog 52 #[.string s] w fun e w'=>
   e=.returned (.slice (some ⟨w.heap.size,0,none⟩) (Lib.fields s.data.toList).length (Lib.fields s.data.toList).length)∧w'=w.alloc (.cells ((Lib.fields s.data.toList).map fun l=>Value.string ⟨l.toArray⟩).toArray 9):=Any.strings_Fields_laid sh_laysM157 s w hs hascii htab
def sh_lays153_ren:Go.Shelf.Ren:=⟨fun|153=>209|152=>170|226=>242|227=>92|228=>134|137=>142|119=>206|224=>173|225=>172|217=>171|266=>207|n=>n,fun|9=>9|3=>3|4=>4|5=>5|21=>21|117=>138|116=>137|0=>0|46=>190|124=>141|n=>n,fun|n=>n⟩
theorem sh_lays153:Go.Proofs.Lays.n153 Tryz.prog sh_lays153_ren:={
 mixed:=by kernel_rfl
 f119:=Tryz.func206.trans (congrArg some (by kernel_rfl))
 f137:=Tryz.func142.trans (congrArg some (by kernel_rfl))
 f152:=Tryz.func170.trans (congrArg some (by kernel_rfl))
 f153:=Tryz.func209.trans (congrArg some (by kernel_rfl))
 f217:=Tryz.func171.trans (congrArg some (by kernel_rfl))
 f224:=Tryz.func173.trans (congrArg some (by kernel_rfl))
 f225:=Tryz.func172.trans (congrArg some (by kernel_rfl))
 f226:=Tryz.func242.trans (congrArg some (by kernel_rfl))
 f227:=Tryz.func92.trans (congrArg some (by kernel_rfl))
 f228:=Tryz.func134.trans (congrArg some (by kernel_rfl))
 f266:=Tryz.func207.trans (congrArg some (by kernel_rfl))
 t0:=Tryz.underlying0
 a0:=Tryz.isAgg0
 z0:=Tryz.sizeOf0
 v0:=Tryz.zeroValue0
 t3:=Tryz.underlying3
 a3:=Tryz.isAgg3
 z3:=Tryz.sizeOf3
 v3:=Tryz.zeroValue3
 t4:=Tryz.underlying4
 a4:=Tryz.isAgg4
 z4:=Tryz.sizeOf4
 v4:=Tryz.zeroValue4
 t5:=Tryz.underlying5
 a5:=Tryz.isAgg5
 z5:=Tryz.sizeOf5
 v5:=Tryz.zeroValue5
 t9:=Tryz.underlying9
 a9:=Tryz.isAgg9
 z9:=Tryz.sizeOf9
 v9:=Tryz.zeroValue9
 t21:=Tryz.underlying21
 a21:=Tryz.isAgg21
 z21:=Tryz.sizeOf21
 v21:=Tryz.zeroValue21
 t46:=Tryz.underlying190
 a46:=Tryz.isAgg190
 z46:=Tryz.sizeOf190
 v46:=Tryz.zeroValue190
 t116:=Tryz.underlying137
 a116:=Tryz.isAgg137
 z116:=Tryz.sizeOf137
 t117:=Tryz.underlying138
 a117:=Tryz.isAgg138
 z117:=Tryz.sizeOf138
 v117:=Tryz.zeroValue138
 t124:=Tryz.underlying141
 a124:=Tryz.isAgg141
 z124:=Tryz.sizeOf141
 v124:=Tryz.zeroValue141 }
open Go.RowKit Go.Lib in
theorem sh_strings_IndexAny_laid (s chars:ByteArray)(w:World)(hs:s.size<4294967281)(hcs:chars.size<4294967281)(has:∀(j:Nat) b,s.data.toList[j]? = some b→b.toNat<128)(hac:∀(j:Nat) b,chars.data.toList[j]? = some b→b.toNat<128) :
  Calls Tryz.prog 209 #[.string s,.string chars] w fun e w'=>e=.returned (.int .i64 (Lib.indexAny s.data.toList chars.data.toList))∧Below w.heap.size w w':=Any.strings_IndexAny_laid sh_lays153 (by kernel_rfl) s chars w hs hcs has hac
def sh_lays105_ren:Go.Shelf.Ren:=⟨fun|105=>166|212=>203|99=>54|165=>204|166=>77|170=>205|169=>44|263=>239|264=>240|206=>95|240=>121|241=>241|276=>155|277=>265|n=>n,fun|9=>9|3=>3|4=>4|20=>20|0=>0|46=>190|109=>247|5=>5|72=>87|76=>121|51=>170|146=>254|53=>37|148=>282|70=>84|37=>85|75=>120|127=>126|164=>187|80=>91|n=>n,fun|n=>n⟩
theorem sh_lays105:Go.Proofs.Lays.n105 Tryz.prog sh_lays105_ren:={
 mixed:=by kernel_rfl
 f99:=Tryz.func54.trans (congrArg some (by kernel_rfl))
 f105:=Tryz.func166.trans (congrArg some (by kernel_rfl))
 f165:=Tryz.func204.trans (congrArg some (by kernel_rfl))
 f166:=Tryz.func77.trans (congrArg some (by kernel_rfl))
 f169:=Tryz.func44.trans (congrArg some (by kernel_rfl))
 f170:=Tryz.func205.trans (congrArg some (by kernel_rfl))
 f206:=Tryz.func95.trans (congrArg some (by kernel_rfl))
 f212:=Tryz.func203.trans (congrArg some (by kernel_rfl))
 f240:=Tryz.func121.trans (congrArg some (by kernel_rfl))
 f241:=Tryz.func241.trans (congrArg some (by kernel_rfl))
 f263:=Tryz.func239.trans (congrArg some (by kernel_rfl))
 f264:=Tryz.func240.trans (congrArg some (by kernel_rfl))
 f276:=Tryz.func155.trans (congrArg some (by kernel_rfl))
 f277:=Tryz.func265.trans (congrArg some (by kernel_rfl))
 t0:=Tryz.underlying0
 a0:=Tryz.isAgg0
 z0:=Tryz.sizeOf0
 v0:=Tryz.zeroValue0
 t3:=Tryz.underlying3
 a3:=Tryz.isAgg3
 z3:=Tryz.sizeOf3
 v3:=Tryz.zeroValue3
 t4:=Tryz.underlying4
 a4:=Tryz.isAgg4
 z4:=Tryz.sizeOf4
 v4:=Tryz.zeroValue4
 t5:=Tryz.underlying5
 a5:=Tryz.isAgg5
 z5:=Tryz.sizeOf5
 v5:=Tryz.zeroValue5
 t9:=Tryz.underlying9
 a9:=Tryz.isAgg9
 z9:=Tryz.sizeOf9
 v9:=Tryz.zeroValue9
 t20:=Tryz.underlying20
 a20:=Tryz.isAgg20
 z20:=Tryz.sizeOf20
 v20:=Tryz.zeroValue20
 t37:=Tryz.underlying85
 a37:=Tryz.isAgg85
 z37:=Tryz.sizeOf85
 v37:=Tryz.zeroValue85
 t46:=Tryz.underlying190
 a46:=Tryz.isAgg190
 z46:=Tryz.sizeOf190
 v46:=Tryz.zeroValue190
 t51:=Tryz.underlying170
 a51:=Tryz.isAgg170
 z51:=Tryz.sizeOf170
 v51:=Tryz.zeroValue170
 t53:=Tryz.underlying37
 a53:=Tryz.isAgg37
 z53:=Tryz.sizeOf37
 v53:=Tryz.zeroValue37
 t70:=Tryz.underlying84
 a70:=Tryz.isAgg84
 z70:=Tryz.sizeOf84
 v70:=Tryz.zeroValue84
 t72:=Tryz.underlying87
 a72:=Tryz.isAgg87
 z72:=Tryz.sizeOf87
 v72:=Tryz.zeroValue87
 t75:=Tryz.underlying120
 a75:=Tryz.isAgg120
 z75:=Tryz.sizeOf120
 v75:=Tryz.zeroValue120
 t76:=Tryz.underlying121
 a76:=Tryz.isAgg121
 z76:=Tryz.sizeOf121
 v76:=Tryz.zeroValue121
 t109:=Tryz.underlying247
 a109:=Tryz.isAgg247
 z109:=Tryz.sizeOf247
 v109:=Tryz.zeroValue247
 t127:=Tryz.underlying126
 a127:=Tryz.isAgg126
 z127:=Tryz.sizeOf126
 v127:=Tryz.zeroValue126
 t146:=Tryz.underlying254
 a146:=Tryz.isAgg254
 z146:=Tryz.sizeOf254
 v146:=Tryz.zeroValue254
 t148:=Tryz.underlying282
 a148:=Tryz.isAgg282
 z148:=Tryz.sizeOf282
 v148:=Tryz.zeroValue282
 t164:=Tryz.underlying187
 a164:=Tryz.isAgg187
 z164:=Tryz.sizeOf187
 v164:=Tryz.zeroValue187 }
theorem sh_Builder_Extra_105:Builder.Extra Tryz.prog sh_lays105_ren:={
 sizeBuilder:=by kernel_rfl
 liesBuilder:=by kernel_rfl
 t5:=Tryz.underlying5
 a5:=Tryz.isAgg5
 z5:=Tryz.sizeOf5
 v5:=Tryz.zeroValue5
 infoByte:=by kernel_rfl
 cellsByte:=by kernel_rfl
 sizeByte:=by kernel_rfl
 neB5:=by decide }
open Go.RowKit Go.Lib in
theorem sh_strings_Repeat (s:ByteArray)(c:Nat)(w:World)(hc:c≤9223372036854775807)(hlen:s.size*c≤140737488355328) :
  Calls Tryz.prog 166 #[.string s,.int .i64 c] w fun e w'=>e=.returned (.string ⟨(Lib.repeatL s.data.toList c).toArray⟩)∧Below w.heap.size w w':=Any.strings_Repeat sh_lays105 sh_Builder_Extra_105 s c w hc hlen
end Go.Proofs.YthmlhkllbichgaaGreatDoor
namespace Go.Proofs.YthmlhkllbichgaaGreatDoor
set_option maxHeartbeats 16000000
open Go.RowKit
set_option maxRecDepth 100000
theorem mul_bd {x y:Int}{a b c:Nat}(h0:0≤x)(h1:x<2 ^ (32*a))(h2:y<2 ^ (32*b))(h3:a+b=c):x*y<2 ^ (32*c):=by
 subst h3;rw[pow_off];have a1:x*y≤x*2 ^ (32*b):=Int.mul_le_mul_of_nonneg_left (by omega) h0;have a2:x*2 ^ (32*b)<2 ^ (32*a)*2 ^ (32*b):=Int.mul_lt_mul_of_pos_right h1 (pow_pos' _);omega
def NatV (w:World)(v:Value)(p:Int)(L:Nat):Prop:=∃(A:Option Addr) (n c:Nat) (us:List Int),v=.slice A n c∧us.length=n∧n≤c∧Rn w A us∧AllW us∧nv us=p∧n≤L
def NatC (w:World)(v:Value)(p:Int)(L:Nat):Prop:=∃(A:Option Addr) (n c:Nat) (us:List Int),v=.slice A n c∧us.length=n∧n≤c∧Rn w A us∧IsNat p us∧n≤L
theorem NatC.v {w:World}{v:Value}{p:Int}{L:Nat}(h:NatC w v p L):NatV w v p L:=by
 obtain⟨A,n,c,us,e,hn,hc,hr,hi,hl⟩:=h;exact⟨A,n,c,us,e,hn,hc,hr,hi.all,hi.val,hl⟩
theorem NatV.below {w w':World}{v:Value}{p:Int}{L:Nat}(h:NatV w v p L)(hb:Below w.heap.size w w'):NatV w' v p L:=by
 obtain⟨A,n,c,us,e,hn,hc,hr,hi⟩:=h;exact⟨A,n,c,us,e,hn,hc,hr.below hb (Nat.le_refl _),hi⟩
theorem NatV.nonneg {w:World}{v:Value}{p:Int}{L:Nat}(h:NatV w v p L):0≤p:=by
 obtain⟨A,n,c,us,e,hn,hc,hr,ha,hv,hl⟩:=h;rw[←hv];exact nv_nonneg _ ha
theorem NatV.lt {w:World}{v:Value}{p:Int}{L:Nat}(h:NatV w v p L):p<2 ^ (32*L):=by
 obtain⟨A,n,c,us,e,hn,hc,hr,ha,hv,hl⟩:=h;rw[←hv];have:=nv_lt us ha;have:=pow_mono (32*us.length) (32*L) (by omega);omega
theorem NatV.form {w:World}{v:Value}{p:Int}{L:Nat}(h:NatV w v p L):∃A n c,v=.slice A n c:=by
 obtain⟨A,n,c,us,e,_⟩:=h;exact⟨A,n,c,e⟩
theorem NatC.form {w:World}{v:Value}{p:Int}{L:Nat}(h:NatC w v p L):∃A n c,v=.slice A n c:=h.v.form
def RetV (P:World→Value→Prop)(w:World)(e:Ending)(w':World):Prop:=∃v,P w' v∧e=.returned v∧Below w.heap.size w w'
theorem RetN.v {p:Int}{L:Nat}{w:World}{e:Ending}{w':World}(hp:p<2 ^ (32*L))(h:RetN p w e w'):RetV (fun w v=>NatC w v p L) w e w':=by
 obtain⟨us,A,n,c,hi,hn,e1,hc,hr, -,hb⟩:=h;exact⟨_,⟨A,n,c,us,rfl,hn,hc,hr,hi,by rw[←hn];exact hi.le hp⟩,e1,hb⟩
section
variable {w:World} {x y:Value} {p q:Int} {L M:Nat}
theorem nmulV (h:NatV w x p L)(k:NatV w y q M)(hL:L≤1048576)(hM:M≤1048576):Calls Tryz.prog 194 #[x,y] w (RetV (fun w v=>NatC w v (p*q) (L+M)) w):=by
 have b:=mul_bd h.nonneg h.lt k.lt rfl;obtain⟨A,n,c,us,rfl,hn,hc,hr,ha,hv,hl⟩:=h;obtain⟨B,m,d,vs,rfl,hm,hd,hs,hb,hw,hk⟩:=k;refine(nmul_any A B n m c d us vs w hn hm hc hd hr hs ha hb (by omega) (by omega)).mono fun e w' r=>?_;rw[hv,hw]at r;exact r.v b
theorem nlenV (h:NatV w x p L)(hL:L≤1048576):Calls Tryz.prog 198 #[x] w fun e w'=>e=.returned (.int .i64 (blen p))∧w=w':=by
 obtain⟨A,n,c,us,rfl,hn,hc,hr,ha,hv,hl⟩:=h;have r:=nlen_any A n c us w hn hc hr ha (by omega);rw[hv]at r;exact r
def RetDivV (p q:Int)(L M:Nat)(w:World)(e:Ending)(w':World):Prop:=∃v u,NatC w' v (p / q) L∧NatC w' u (p % q) M∧e=.returned (.tuple #[v,u,.int .i64 0])∧Below w.heap.size w w'
theorem ndivV (h:NatV w x p L)(k:NatV w y q M)(hL:L≤1048576)(hM:M≤1048576)(h0:q≠0):Calls Tryz.prog 196 #[x,y] w (RetDivV p q L M w):=by
 have b1:=h.lt;have b0:=h.nonneg;have b2:=k.nonneg;have b3:=k.lt;have b4:=Int.ediv_le_self q b0;have b5:=Int.emod_lt_of_pos p (show 0<q by omega);obtain⟨A,n,c,us,rfl,hn,hc,hr,ha,hv,hl⟩:=h;obtain⟨B,m,d,vs,rfl,hm,hd,hs,hb,hw,hk⟩:=k;refine(ndiv_pos A B n m c d us vs w hn hm hc hd hr hs ha hb (by omega) (by omega) (by rw[hw];exact h0)).mono fun e w' r=>?_;rw[hv,hw]at r;obtain⟨us',vs',A',B',n',m',c',d',i1,i2,n1,n2,e1,c1,c2,r1,r2, -, -,hb'⟩:=r;exact⟨_,_,⟨A',n',c',us',rfl,n1,c1,r1,i1,by rw[←n1];exact i1.le (by omega)⟩,⟨B',m',d',vs',rfl,n2,c2,r2,i2,by rw[←n2];exact i2.le (by omega)⟩,e1,hb'⟩
theorem newV (a:Int)(ha:Word a)(w:World):Calls Tryz.prog 193 #[.int .u64 a] w (RetV (fun w v=>NatC w v a 2) w):=
 (new_any a ha w).mono fun _ _ r=>r.v (by rw[show(2:Int) ^ (32*2)=18446744073709551616 by decide];exact ha.2)
end
section
variable {w:World} {x y:Value} {p q:Int} {L M:Nat}
end
def wput (w:World)(g:Nat)(a b c:Value):World:=((w.setCell ⟨g,0,none⟩ a).setCell ⟨g,1,none⟩ b).setCell ⟨g,2,none⟩ c
section
variable {w w':World} {g:Nat} {t:TypeId} {b0:Bool} {A0 B0:Option Addr} {n0 c0 m0 d0:Nat}
theorem Blk.put3 {x y z:Value}(k:Blk w g t #[x,y,z])(a b c:Value):Blk (wput w g a b c) g t #[a,b,c]:=by
 have h1:=((k.set_ 0 a).set_ 1 b).set_ 2 c;unfold wput
 simpa using h1
theorem bel_put3 {B:Nat}(h:Below B w w')(hg:B≤g)(a b c:Value):Below B w (wput w' g a b c):=
 ((h.setCell (p:=⟨g,0,none⟩) hg a).setCell (p:=⟨g,1,none⟩) hg b).setCell (p:=⟨g,2,none⟩) hg c
theorem Blk.three {a b c:Value}(h:Blk w g t #[a,b,c]):w.cell? ⟨g,0,none⟩=some a∧w.cell? ⟨g,1,none⟩=some b∧w.cell? ⟨g,2,none⟩=some c∧w.frozen? ⟨g,0,none⟩=false∧w.frozen? ⟨g,1,none⟩=false∧w.frozen? ⟨g,2,none⟩=false:=
 ⟨h.cell 0,h.cell 1,h.cell 2,h.frozen 0,h.frozen 1,h.frozen 2⟩
end
theorem size_alloc (w:World)(o:Obj):(w.alloc o).heap.size=w.heap.size+1:=by simp
section
variable {w w':World} {o1 o2 o3:Obj} {t:TypeId} {cs:Array Value}
end
def fS (f:Int):Bool:=decide (9223372036854775808≤f)
def fE (f:Int):Int:=f / 4503599627370496 % 2048
def fM (f:Int):Int:=f % 4503599627370496
def fC (f:Int):Int:=if fE f=2047 then(if fM f=0 then 3 else 4)else if fE f=0 then(if fM f=0 then 0 else 1)else 2
theorem and63 {f:Int}(h:Word f):bits BinOp.and IntKind.u64 f 9223372036854775808=if 9223372036854775808≤f then 9223372036854775808 else 0:=by
 obtain⟨h0,h1⟩:=h;obtain⟨k,rfl⟩:=Int.eq_ofNat_of_zero_le h0;have:=bits_and_u64_nat k 9223372036854775808 (by omega) (by omega);refine this.trans ?_
 have e:k &&& 2 ^ 63=2 ^ 63*(k / 2 ^ 63 % 2):=by
  apply Nat.eq_of_testBit_eq;intro i;rw[Nat.testBit_and,Nat.testBit_two_pow,Nat.testBit_two_pow_mul]
  by_cases hi:i=63
  ·subst hi;simp[Nat.testBit_eq_decide_div_mod_eq]
  ·by_cases h2:63≤i
   ·have:k / 2 ^ 63 % 2<2 ^ (i-63):=Nat.lt_of_lt_of_le (Nat.mod_lt _ (by decide)) (by
     have:=Nat.pow_le_pow_right (n:=2) (by decide) (show 1≤i-63 by omega)
     omega)
    rw[Nat.testBit_lt_two_pow this,decide_eq_false (show ¬63=i by omega),Bool.and_false,Bool.and_false]
   ·rw[decide_eq_false (show ¬63=i by omega),decide_eq_false (show ¬i≥63 by omega),Bool.and_false,Bool.false_and]
 rw[show(9223372036854775808:Nat)=2 ^ 63 by decide,e]
 split<;>omega
theorem andlow {f:Int}(h:Word f):bits BinOp.and IntKind.u64 f 4503599627370495=f % 4503599627370496:=by
 obtain⟨h0,h1⟩:=h;obtain⟨k,rfl⟩:=Int.eq_ofNat_of_zero_le h0;refine(bits_and_u64_nat k 4503599627370495 (by omega) (by omega)).trans ?_;rw[show(4503599627370495:Nat)=2 ^ 52-1 by decide,Nat.and_two_pow_sub_one_eq_mod];omega
theorem and2047 {f:Int}(h:Word f):bits BinOp.and IntKind.u64 f 2047=f % 2048:=by
 obtain⟨h0,h1⟩:=h;obtain⟨k,rfl⟩:=Int.eq_ofNat_of_zero_le h0;refine(bits_and_u64_nat k 2047 (by omega) (by omega)).trans ?_;rw[show(2047:Nat)=2 ^ 11-1 by decide,Nat.and_two_pow_sub_one_eq_mod];omega
theorem or63 {f:Int}(h0:0≤f)(h1:f<9223372036854775808):bits BinOp.or IntKind.u64 f 9223372036854775808=f+9223372036854775808:=by
 obtain⟨k,rfl⟩:=Int.eq_ofNat_of_zero_le h0;refine(bits_or_u64_nat k 9223372036854775808 (by omega) (by omega)).trans ?_;have:=Nat.two_pow_add_eq_or_of_lt (i:=63) (b:=k) (by omega) 1;rw[Nat.or_comm,show(9223372036854775808:Nat)=2 ^ 63*1 by decide,←this];omega
theorem or52 {e m:Int}(h0:0≤e)(h1:e<4096)(h2:0≤m)(h3:m<4503599627370496):bits BinOp.or IntKind.u64 (e*4503599627370496) m=e*4503599627370496+m:=by
 obtain⟨k,rfl⟩:=Int.eq_ofNat_of_zero_le h0;obtain⟨j,rfl⟩:=Int.eq_ofNat_of_zero_le h2;have:=bits_or_u64_nat (k*4503599627370496) j (by omega) (by omega);rw[Int.natCast_mul]at this;refine this.trans ?_;have e2:=Nat.two_pow_add_eq_or_of_lt (i:=52) (b:=j) (by omega) k;rw[show k*4503599627370496=2 ^ 52*k by omega,←e2];omega
theorem or52one {m:Int}(h2:0≤m)(h3:m<4503599627370496):bits BinOp.or IntKind.u64 4503599627370496 m=4503599627370496+m:=by
 have:=or52 (e:=1) (by omega) (by omega) h2 h3;rw[Int.one_mul]at this;exact this
theorem nand63 {f:Int}(h:Word f):bits BinOp.andNot IntKind.u64 f 9223372036854775808=f % 9223372036854775808:=by
 obtain⟨h0,h1⟩:=h;obtain⟨k,rfl⟩:=Int.eq_ofNat_of_zero_le h0
 have hk:(BitVec.ofInt 64 (k:Int)).toNat=k:=by
  rw[BitVec.ofInt_natCast,BitVec.toNat_ofNat];exact Nat.mod_eq_of_lt (by omega)
 show IntKind.u64.wrap ((BitVec.ofInt 64 (k:Int) &&& ~~~ BitVec.ofInt 64 (9223372036854775808:Int)).toNat:Int)=_;rw[BitVec.toNat_and,hk,show(~~~ BitVec.ofInt 64 (9223372036854775808:Int)).toNat=2 ^ 63-1 by decide,Nat.and_two_pow_sub_one_eq_mod,IntKind.wrap_u64];omega
theorem sign_bit {f:Int}(h:Word f):(bits BinOp.and IntKind.u64 f 9223372036854775808 != 0)=fS f:=by
 rw[and63 h];unfold fS
 split<;>rename_i h1
 ·rw[decide_eq_true h1];rfl
 ·rw[decide_eq_false h1];rfl
theorem exp_bd {f:Int}:0≤fE f∧fE f<2048:=by unfold fE;omega
theorem frac_bd {f:Int}:0≤fM f∧fM f<4503599627370496:=by unfold fM;omega
theorem word_exp {f:Int}(h:Word f):Word (f / 4503599627370496):=by obtain⟨h0,h1⟩:=h;constructor<;>omega
theorem wrap64_in {a:Int}(h0:-9223372036854775808≤a)(h1:a≤9223372036854775807):wrap64 a=a:=IntWalk.wrap64_in a ⟨h0,h1⟩
theorem exp_bits {f:Int}(h:Word f):wrap64 (bits BinOp.and IntKind.u64 (f / 4503599627370496) 2047)=fE f:=by
 have:=exp_bd (f:=f);rw[and2047 (word_exp h)];exact wrap64_in (a:=fE f) (by omega) (by omega)
theorem parts_any (f:Int)(hf:Word f)(w:World):Calls Tryz.prog 128 #[.int .u64 f] w fun e w'=>e=.returned (.tuple #[.bool (fS f),.int .i64 (fE f),.int .u64 (fM f)])∧w=w':=by
 go_enter Tryz.func128,Tryz.ntmps128;go_wp2_with fail;rw[sign_bit hf,exp_bits hf,andlow hf]
 go_ret3
 exact⟨rfl,rfl⟩
theorem cls_bd (f:Int):0≤fC f∧fC f≤4:=by unfold fC;split<;>split<;>omega
theorem fC_inf {f:Int}(h1:fE f=2047)(h2:fM f=0):fC f=3:=by simp[fC,h1,h2]
theorem fC_nan {f:Int}(h1:fE f=2047)(h2:fM f≠0):fC f=4:=by simp[fC,h1,h2]
theorem fC_zero {f:Int}(h1:fE f=0)(h2:fM f=0):fC f=0:=by simp[fC,h1,h2]
theorem fC_sub {f:Int}(h1:fE f=0)(h2:fM f≠0):fC f=1:=by simp[fC,h1,h2]
theorem fC_norm {f:Int}(h1:fE f≠2047)(h2:fE f≠0):fC f=2:=by simp[fC,h1,h2]
theorem class_any (f:Int)(hf:Word f)(w:World):Calls Tryz.prog 129 #[.int .u64 f] w fun e w'=>e=.returned (.int .u8 (fC f))∧w=w':=by
 by_cases h1:fE f=2047
 ·by_cases h2:fM f=0
  ·skip
   have HC:=Hj (fC_inf h1 h2);go_enter Tryz.func129,Tryz.ntmps129;go_wp2_with fail;refine(parts_any f hf _).mono ?_;rintro e w1 ⟨rfl,rfl⟩;rw[h1,h2];go_wp2_with fail;go_ret;exact⟨ret_int HC.out.symm,rfl⟩
  ·skip
   have HC:=Hj (fC_nan h1 h2);go_enter Tryz.func129,Tryz.ntmps129;go_wp2_with fail;refine(parts_any f hf _).mono ?_;rintro e w1 ⟨rfl,rfl⟩;rw[h1];go_wp2_with fail;go_ret;exact⟨ret_int HC.out.symm,rfl⟩
 ·by_cases h3:fE f=0
  ·by_cases h2:fM f=0
   ·skip
    have HC:=Hj (fC_zero h3 h2);go_enter Tryz.func129,Tryz.ntmps129;go_wp2_with fail;refine(parts_any f hf _).mono ?_;rintro e w1 ⟨rfl,rfl⟩;rw[h3,h2];go_wp2_with fail;go_ret;exact⟨ret_int HC.out.symm,rfl⟩
   ·skip
    have HC:=Hj (fC_sub h3 h2);go_enter Tryz.func129,Tryz.ntmps129;go_wp2_with fail;refine(parts_any f hf _).mono ?_;rintro e w1 ⟨rfl,rfl⟩;rw[h3];go_wp2_with fail;go_ret;exact⟨ret_int HC.out.symm,rfl⟩
  ·skip
   have HC:=Hj (fC_norm h1 h3);go_enter Tryz.func129,Tryz.ntmps129;go_wp2_with fail;refine(parts_any f hf _).mono ?_;rintro e w1 ⟨rfl,rfl⟩;go_wp2_with fail;go_ret;exact⟨ret_int HC.out.symm,rfl⟩
def fX (f:Int):Int:=if fC f=2 then 4503599627370496+fM f else if fC f=1 then fM f else 0
def fY (f:Int):Int:=if fC f=2 then fE f-1075 else if fC f=1 then -1074 else 0
theorem fXY_norm {f:Int}(h:fC f=2):4503599627370496+fM f=fX f∧fE f-1075=fY f:=by simp[fX,fY,h]
theorem fXY_sub {f:Int}(h:fC f=1):fM f=fX f ∧ -1074=fY f:=by simp[fX,fY,h]
theorem fXY_else {f:Int}(h1:fC f≠1)(h2:fC f≠2):0=fX f∧0=fY f:=by simp[fX,fY,h1,h2]
theorem ret_pair {k l:IntKind}{a b c d:Int}(h:a=c∧b=d):Ending.returned (.tuple #[.int k a,.int l b])=.returned (.tuple #[.int k c,.int l d]):=by rw[h.1,h.2]
theorem split_any (f:Int)(hf:Word f)(w:World):Calls Tryz.prog 191 #[.int .u64 f] w fun e w'=>e=.returned (.tuple #[.int .u64 (fX f),.int .i64 (fY f)])∧w=w':=by
 have eb:=exp_bd (f:=f);obtain⟨m0,m1⟩:=frac_bd (f:=f)
 by_cases h2:fC f=2
 ·have HC:=Hj (fXY_norm h2)
  go_enter Tryz.func191,Tryz.ntmps191;go_wp2_with fail;refine(parts_any f hf _).mono ?_;rintro e w1 ⟨rfl,rfl⟩;go_wp2_with fail;refine(class_any f hf _).mono ?_;rintro e w1 ⟨rfl,rfl⟩;rw[h2];go_wp2_with fail;rw[or52one m0 m1]
  go_ret2
  exact⟨ret_pair HC.out,rfl⟩
 ·by_cases h1:fC f=1
  ·have HC:=Hj (fXY_sub h1)
   go_enter Tryz.func191,Tryz.ntmps191;go_wp2_with fail;refine(parts_any f hf _).mono ?_;rintro e w1 ⟨rfl,rfl⟩;go_wp2_with fail;refine(class_any f hf _).mono ?_;rintro e w1 ⟨rfl,rfl⟩;rw[h1];go_wp2_with fail
   go_ret2
   exact⟨ret_pair HC.out,rfl⟩
  ·have HC:=Hj (fXY_else h1 h2)
   go_enter Tryz.func191,Tryz.ntmps191;go_wp2_with fail;refine(parts_any f hf _).mono ?_;rintro e w1 ⟨rfl,rfl⟩;go_wp2_with fail;refine(class_any f hf _).mono ?_;rintro e w1 ⟨rfl,rfl⟩;go_wp2_with fail
   go_ret2
   exact⟨ret_pair HC.out,rfl⟩
def sg (s:Bool):Int:=if s then 9223372036854775808 else 0
theorem sg_bd (s:Bool):0≤sg s∧sg s≤9223372036854775808:=by cases s<;>decide
theorem withSign_any (s:Bool)(f:Int)(h0:0≤f)(h1:f<9223372036854775808)(w:World):Calls Tryz.prog 287 #[.bool s,.int .u64 f] w fun e w'=>e=.returned (.int .u64 (f+sg s))∧w=w':=by
 cases s
 ·go_enter Tryz.func287,Tryz.ntmps287
  go_wp2_with fail;go_ret;exact⟨ret_int (by simp[sg]),rfl⟩
 ·go_enter Tryz.func287,Tryz.ntmps287
  go_wp2_with fail;rw[or63 h0 h1];go_ret;exact⟨ret_int (by simp[sg]),rfl⟩
def mkF (s:Bool)(e m:Int):Int:=e*4503599627370496+m+sg s
def mkOk (e m:Int):Prop:=0≤e∧e<2048∧m<4503599627370496
instance (e m:Int):Decidable (mkOk e m):=by unfold mkOk;infer_instance
theorem make_good (s:Bool)(e m:Int)(hm:Word m)(h:mkOk e m)(w:World):Calls Tryz.prog 277 #[.bool s,.int .i64 e,.int .u64 m] w fun x w'=>x=.returned (.tuple #[.int .u64 (mkF s e m),.int .i64 0])∧w=w':=by
 obtain⟨h1,h2,h3⟩:=h;obtain⟨m0,m1⟩:=hm;have o:=or52 (e:=e) (m:=m) h1 (by omega) m0 h3;have HO:=Hj o;clear o;go_enter Tryz.func277,Tryz.ntmps277;go_wp2_with fail;rw[HO.out];refine(withSign_any s _ (by omega) (by omega) _).mono ?_;rintro x w1 ⟨rfl,rfl⟩;go_wp2_with fail
 go_ret2
 exact⟨rfl,rfl⟩
theorem isNaN_any (f:Int)(hf:Word f)(w:World):Calls Tryz.prog 190 #[.int .u64 f] w fun x w'=>x=.returned (.bool (decide (fC f=4)))∧w=w':=by
 go_enter Tryz.func190,Tryz.ntmps190;go_wp2_with fail;refine(class_any f hf _).mono ?_;rintro e w1 ⟨rfl,rfl⟩;go_wp2_with fail;go_ret;exact⟨ret_bool (by by_cases h:fC f=4<;>simp[h]),rfl⟩
theorem low63 {f:Int}(hf:Word f):fE f*4503599627370496+fM f=f % 9223372036854775808:=by
 obtain⟨h0,h1⟩:=hf;unfold fE fM;omega
def fAb (f:Int):Int:=if fC f=4 then f else f % 9223372036854775808
theorem nan_iff {f:Int}(hf:Word f):fC f=4↔9218868437227405312<f % 9223372036854775808:=by
 obtain⟨h0,h1⟩:=hf;unfold fC fE fM;split
 ·split<;>omega
 ·split
  ·split<;>omega
  ·omega
theorem abs_f (f:Int)(hf:Word f)(w:World):Calls Tryz.prog 161 #[.int .u64 f] w fun x w'=>x=.returned (.int .u64 (fAb f))∧w=w':=by
 have HX:=Hj (nand63 hf)
 by_cases h:fC f=4
 ·have HN:Hid (f=fAb f):=by show _=_;simp[fAb,h]
  go_enter Tryz.func161,Tryz.ntmps161;go_wp2_with fail;refine(isNaN_any f hf _).mono ?_;rw[decide_eq_true h];rintro e w1 ⟨rfl,rfl⟩;go_wp2_with fail;go_ret;exact⟨ret_int HN.out,rfl⟩
 ·have HN:Hid (f % 9223372036854775808=fAb f):=by show _=_;simp[fAb,h]
  go_enter Tryz.func161,Tryz.ntmps161;go_wp2_with fail;refine(isNaN_any f hf _).mono ?_;rw[decide_eq_false h];rintro e w1 ⟨rfl,rfl⟩;go_wp2_with fail;rw[HX.out,HN.out];go_ret;exact⟨rfl,rfl⟩
theorem inf_f (s:Bool)(w:World):Calls Tryz.prog 281 #[.bool s] w fun x w'=>x=.returned (.int .u64 (9218868437227405312+sg s))∧w=w':=by
 go_enter Tryz.func281,Tryz.ntmps281;go_wp2_with fail;refine(withSign_any s _ (by decide) (by decide) _).mono ?_;rintro e w1 ⟨rfl,rfl⟩;go_wp2_with fail;go_ret;exact⟨rfl,rfl⟩
end Go.Proofs.YthmlhkllbichgaaGreatDoor
