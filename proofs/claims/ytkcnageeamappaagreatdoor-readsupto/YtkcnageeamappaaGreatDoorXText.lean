import Derived.Below
import Derived.Test.YtkcnageeamappaaGreatDoorProg
import Derived.WalkKit
import Derived.Deep.Draws
import Derived.Shelf.Strings.Builder1
import Derived.Shelf.Strings.Builder2
import Derived.Shelf.Strings.OnBuilder
import Derived.Shelf.Strings.Trim
import Derived.Shelf.Small.Utf8
import Derived.Shelf.Small.Strs
import Derived.Shelf.Small.Wraps
import Derived.Shelf.Strings.BuilderF
import Derived.Shelf.Strings.BuilderK
import Derived.Shelf.Strconv.Itoa0
import Derived.Shelf.Strconv.Itoa1
import Derived.Shelf.LaysM
import Derived.Shelf.Strconv.Itoa2
import Derived.Shelf.Strconv.Itoa3
import Derived.Ground.MpProg
import Derived.Shelf.Pu.ParseUintPublic10
import Derived.Shelf.Pu.ErrVarParseUint
import Derived.Shelf.Strings.Search1
import Derived.Shelf.Strings.Search2
import Derived.Shelf.Strings.Search3
import Derived.Shelf.Strings.Cut
import Derived.Shelf.Strings.Count
import Derived.Shelf.Strings.Shaped
import Derived.Shelf.Strings.LastIndex
import Derived.Shelf.GgClosure.StringsIndexFunc
import Derived.Shelf.GgClosure.StringsTrimFunc
import Derived.Shelf.Strings.Prefix
import Derived.Shelf.Strings.Split
import Derived.Shelf.Strings.Replace
import Derived.Shelf.Strings.SplitShaped
import Derived.Shelf.Unicode.Latin
import Derived.Shelf.Strings.Runes
import Derived.Shelf.Strings.AsciiSet
import Derived.Shelf.Unicode.DecodeSlow
import Derived.Shelf.Unicode.DecodeAny
import Derived.Shelf.Unicode.DecodeLast
import Derived.Shelf.Unicode.CaseLookup
import Derived.Shelf.Unicode.CaseConvert
import Derived.Shelf.Unicode.CaseTo
import Derived.Shelf.Unicode.CaseLaid
import Derived.Ground.Names2Prog
import Derived.Shelf.Slices.Clone
import Derived.Lib.IndexMore
import Derived.Lib.IndexBytes
import Derived.Lib.UnsafeStr
import Derived.Laws.Entries
import Derived.KernelRfl
import Derived.WalkSpells
import Derived.WalkLawsBesides
import Derived.BigCall
import Derived.BigQuiet
import Derived.Deep.QuietTactic
import Derived.Deep.RegionWith
import Derived.Laws.CopyOwn
import Derived.Laws.Rows
set_option maxHeartbeats 32000000
set_option maxRecDepth 8000
namespace Go.Moor
open Go.RowKit
theorem hI {p:Prop} (h:p):Hid p:=h
theorem z09 {α:Type} (a:α):∃x,x=a:=⟨_,rfl⟩
end Go.Moor
namespace Go.Proofs
open Go.RowKit Go.Moor Go.Proofs.Tryz Go.RowKit
abbrev C0 (f:Nat) (a:Array Value) (w:World) (v:Value):Prop:=Calls Tryz.prog f a w fun e w'=>e=.returned v∧w'=w
abbrev CB (f:Nat) (a:Array Value) (w:World) (v:Value):Prop:=Calls Tryz.prog f a w fun e w'=>e=.returned v∧Below w.heap.size w w'
abbrev CN (f:Nat) (a:Array Value) (w:World) (v:Value):Prop:=Calls Tryz.prog f a w fun e w'=>e=.returned v∧∃n,w'=w.drewN n
abbrev CQ (f:Nat) (a:Array Value) (w:World) (v:Value) (Q:World→Prop):Prop:=Calls Tryz.prog f a w fun e w'=>e=.returned v∧Q w'
abbrev CP (f:Nat) (a:Array Value) (w:World) (Q:Ending→Prop):Prop:=Calls Tryz.prog f a w fun e w'=>Q e∧Below w.heap.size w w'
abbrev CE (f:Nat) (a:Array Value) (w:World) (v:Ending):Prop:=Calls Tryz.prog f a w fun e w'=>e=v∧Below w.heap.size w w'
end Go.Proofs
namespace Go.Proofs
open Go.RowKit Go.Moor Go.Proofs.Tryz Go.Shelf
def z0V:Go.Shelf.Ren:=⟨fun|0=>0|1=>1|2=>2|99=>82|101=>165|103=>277|104=>138|118=>234|119=>319|120=>300|129=>289|137=>141|138=>215|143=>216|144=>230|145=>112|146=>132|149=>316|151=>299|152=>315|154=>167|155=>107|156=>189|159=>143|160=>241|161=>247|165=>198|166=>96|167=>114|168=>235|169=>97|171=>106|195=>258|197=>217|204=>200|205=>318|206=>137|207=>228|208=>213|210=>301|211=>190|217=>197|218=>259|219=>218|220=>169|221=>186|222=>320|224=>262|225=>261|227=>271|228=>298|230=>199|231=>269|232=>270|233=>272|234=>273|235=>274|236=>275|237=>152|238=>205|240=>158|241=>233|242=>267|243=>166|245=>285|246=>214|260=>260|262=>237|266=>232|267=>263|268=>226|270=>236|271=>276|272=>206|273=>242|274=>296|275=>297|276=>209|277=>266|278=>295|279=>309|280=>310|281=>311|282=>312|283=>254|284=>255|285=>256|286=>257|287=>284|313=>268|314=>293|315=>243|316=>317|317=>288|318=>290|319=>291|320=>292|321=>307|322=>308|337=>313|338=>314|347=>321|348=>322|349=>323|350=>324|351=>325|352=>326|353=>327|354=>328|355=>329|356=>330|357=>331|358=>332|359=>333|360=>336|361=>337|362=>345|363=>366|364=>363|365=>364|366=>344|367=>398|n=>n,fun|0=>0|1=>1|2=>2|3=>3|4=>4|5=>5|6=>6|7=>7|8=>8|9=>9|10=>10|11=>11|12=>12|13=>13|14=>14|15=>15|16=>16|17=>17|18=>18|19=>19|20=>20|21=>21|22=>122|23=>216|24=>108|25=>176|26=>38|27=>244|28=>33|31=>28|37=>47|39=>249|40=>209|41=>219|42=>117|43=>25|46=>161|47=>287|48=>107|49=>335|51=>284|52=>304|53=>151|54=>260|55=>184|59=>157|60=>158|61=>173|63=>297|64=>309|65=>217|66=>150|67=>224|68=>228|69=>84|70=>140|71=>141|72=>142|73=>233|74=>64|75=>65|76=>143|77=>144|78=>159|79=>250|80=>99|81=>169|83=>26|84=>243|102=>256|103=>114|104=>63|105=>245|106=>246|107=>235|108=>145|111=>286|113=>223|114=>264|115=>272|116=>273|117=>274|118=>275|119=>288|121=>234|122=>271|123=>276|124=>277|125=>208|126=>267|127=>212|128=>281|131=>221|137=>289|138=>290|139=>291|142=>251|143=>314|144=>315|145=>316|146=>292|150=>247|151=>293|155=>253|160=>294|161=>295|162=>270|163=>296|164=>124|165=>240|166=>266|167=>300|168=>301|169=>302|170=>303|171=>259|172=>261|173=>262|174=>263|175=>188|176=>255|185=>35|203=>268|204=>269|205=>305|206=>306|207=>307|208=>308|209=>310|210=>311|211=>282|212=>283|213=>285|214=>156|229=>230|232=>312|233=>313|238=>317|239=>318|240=>319|241=>320|242=>321|243=>323|244=>132|245=>324|246=>325|247=>326|248=>327|249=>328|n=>n,fun|1=>16|3=>21|4=>22|13=>19|15=>25|16=>26|17=>20|18=>27|19=>28|n=>n⟩
def zc5:Go.Shelf.Ren:=⟨fun|0=>0|1=>1|2=>2|14=>249|16=>284|17=>285|19=>307|20=>308|21=>309|22=>310|23=>311|24=>312|25=>317|26=>318|27=>106|28=>166|29=>214|30=>254|31=>255|32=>256|33=>257|34=>288|35=>289|36=>290|37=>291|38=>292|39=>313|40=>314|41=>321|42=>322|43=>323|44=>324|45=>325|46=>326|47=>327|48=>328|49=>329|50=>330|51=>331|52=>332|53=>333|54=>336|55=>337|56=>363|57=>364|58=>366|59=>344|60=>398|n=>n,fun|0=>0|1=>1|2=>2|3=>3|4=>4|5=>5|6=>6|7=>7|8=>8|9=>9|10=>10|11=>11|12=>12|13=>13|14=>14|15=>15|16=>16|17=>17|18=>18|19=>19|20=>20|21=>21|22=>151|23=>64|24=>65|25=>188|26=>255|27=>189|31=>335|33=>281|34=>300|35=>156|36=>161|37=>47|38=>63|39=>301|40=>302|41=>303|42=>84|43=>310|44=>311|45=>145|46=>26|47=>212|48=>314|49=>315|50=>316|51=>243|52=>259|53=>260|54=>261|55=>262|56=>263|57=>264|58=>282|59=>283|60=>284|61=>285|62=>286|63=>287|64=>304|65=>312|66=>313|67=>99|68=>317|69=>318|70=>319|71=>320|72=>321|73=>169|74=>323|75=>132|76=>324|77=>325|78=>326|79=>327|80=>328|81=>124|n=>n,fun|0=>25|1=>26|2=>20|3=>27|4=>28|n=>n⟩
def zc6:Go.Shelf.Ren:=⟨fun|0=>0|1=>1|2=>2|16=>250|40=>321|41=>322|42=>323|43=>324|44=>325|45=>326|46=>327|47=>328|48=>329|49=>330|50=>331|51=>332|52=>333|53=>336|54=>337|55=>344|n=>n,fun|0=>0|1=>1|2=>2|3=>3|4=>4|5=>5|6=>6|7=>7|8=>8|9=>9|10=>10|11=>11|12=>12|13=>13|14=>14|15=>15|16=>16|17=>17|18=>18|19=>19|20=>20|21=>21|22=>33|24=>28|25=>256|27=>45|33=>221|40=>161|42=>286|43=>122|44=>63|46=>99|47=>317|48=>318|49=>319|50=>320|51=>321|52=>169|53=>284|54=>323|55=>132|56=>324|57=>212|58=>325|59=>326|60=>327|61=>328|62=>124|n=>n,fun|n=>n⟩
def Tryz.lays167_ren:Go.Shelf.Ren:=z0V
theorem zfe:Go.Proofs.Lays.n167 Tryz.prog Tryz.lays167_ren:=by constructor<;>first|kernel_rfl|(intro w;kernel_rfl)|decide|(constructor<;>first|kernel_rfl|(intro w;kernel_rfl))
theorem z7P:Builder.Extra Tryz.prog Tryz.lays167_ren:=by constructor<;>first|kernel_rfl|(intro w;kernel_rfl)|decide|(constructor<;>first|kernel_rfl|(intro w;kernel_rfl))
def Tryz.lays166_ren:Go.Shelf.Ren:=z0V
theorem zff:Go.Proofs.Lays.n166 Tryz.prog Tryz.lays166_ren:=by constructor<;>first|kernel_rfl|(intro w;kernel_rfl)|decide|(constructor<;>first|kernel_rfl|(intro w;kernel_rfl))
theorem z7Q:Builder.Extra Tryz.prog Tryz.lays166_ren:=by constructor<;>first|kernel_rfl|(intro w;kernel_rfl)|decide|(constructor<;>first|kernel_rfl|(intro w;kernel_rfl))
def Tryz.lays169_ren:Go.Shelf.Ren:=z0V
theorem zfg:Go.Proofs.Lays.n169 Tryz.prog Tryz.lays169_ren:=by constructor<;>first|kernel_rfl|(intro w;kernel_rfl)|decide|(constructor<;>first|kernel_rfl|(intro w;kernel_rfl))
theorem z7R:Builder.Extra Tryz.prog Tryz.lays169_ren:=by constructor<;>first|kernel_rfl|(intro w;kernel_rfl)|decide|(constructor<;>first|kernel_rfl|(intro w;kernel_rfl))
def Tryz.lays159_ren:Go.Shelf.Ren:=z0V
theorem zfh:Go.Proofs.Lays.n159 Tryz.prog Tryz.lays159_ren:=by constructor<;>first|kernel_rfl|(intro w;kernel_rfl)|decide|(constructor<;>first|kernel_rfl|(intro w;kernel_rfl))
theorem z7S:Builder.Extra Tryz.prog Tryz.lays159_ren:=by constructor<;>first|kernel_rfl|(intro w;kernel_rfl)|decide|(constructor<;>first|kernel_rfl|(intro w;kernel_rfl))
open Go.RowKit in
theorem Tryz.strings_ToLower_ascii (s:ByteArray) (w:World) (hs:s.size≤140737488355328) (hascii:∀(j:Nat) (b:UInt8),s.data.toList[j]?=some b→b.toNat<128):Calls Tryz.prog 143 #[.string s] w fun e w'=>e=.returned (.string ⟨(Lib.toLowerA s.data.toList).toArray⟩)∧Below w.heap.size w w':=Any.strings_ToLower_ascii zfh z7S s w hs hascii
def Tryz.lays156_ren:Go.Shelf.Ren:=z0V
theorem z9O:Go.Proofs.Lays.n156 Tryz.prog Tryz.lays156_ren:=by constructor<;>first|kernel_rfl|(intro w;kernel_rfl)|decide|(constructor<;>first|kernel_rfl|(intro w;kernel_rfl))
theorem z5c:Builder.Extra Tryz.prog Tryz.lays156_ren:=by constructor<;>first|kernel_rfl|(intro w;kernel_rfl)|decide|(constructor<;>first|kernel_rfl|(intro w;kernel_rfl))
open Go.RowKit in
theorem Tryz.strings_Join_none (a:Option Addr) (c:Nat) (sep:ByteArray) (w:World):Calls Tryz.prog 189 #[.slice a 0 c,.string sep] w fun e w'=>e=.returned (.string ⟨#[]⟩)∧w'=w:=Any.strings_Join_none z9O z5c a c sep w
open Go.RowKit in
theorem Tryz.strings_Join (bk o c:Nat) (xs:List ByteArray) (sep:ByteArray) (w:World) (hcells:∀(j:Nat) x,xs[j]?=some x→w.cell? ⟨bk,o+j,none⟩=some (.string x)) (hbk:bk<w.heap.size) (hN:xs.length≤140737488355328) (hcap:xs.length≤c) (hlen:(Lib.join (xs.map (·.data.toList)) sep.data.toList).length≤140737488355328):Calls Tryz.prog 189 #[.slice (some ⟨bk,o,none⟩) xs.length c,.string sep] w fun e w'=>e=.returned (.string ⟨(Lib.join (xs.map (·.data.toList)) sep.data.toList).toArray⟩)∧Below w.heap.size w w':=Any.strings_Join z9O z5c bk o c xs sep w hcells hbk hN hcap hlen
def Tryz.lays161_ren:Go.Shelf.Ren:=z0V
theorem zfi:Go.Proofs.Lays.n161 Tryz.prog Tryz.lays161_ren:=by constructor<;>first|kernel_rfl|(intro w;kernel_rfl)|decide|(constructor<;>first|kernel_rfl|(intro w;kernel_rfl))
open Go.RowKit in
theorem Tryz.strings_TrimLeft_one (s:ByteArray) (c:UInt8) (hc:c.toNat<128) (w:World):Calls Tryz.prog 247 #[.string s,.string ⟨#[c]⟩] w fun e w'=>e=.returned (.string ⟨(Lib.trimLeftB s.data.toList c).toArray⟩)∧w'=w:=Any.strings_TrimLeft_one zfi s c hc w
def Tryz.lays160_ren:Go.Shelf.Ren:=z0V
theorem zfj:Go.Proofs.Lays.n160 Tryz.prog Tryz.lays160_ren:=by constructor<;>first|kernel_rfl|(intro w;kernel_rfl)|decide|(constructor<;>first|kernel_rfl|(intro w;kernel_rfl))
def Tryz.lays137_ren:Go.Shelf.Ren:=z0V
theorem zfk:Go.Proofs.Lays.n137 Tryz.prog Tryz.lays137_ren:=by constructor<;>first|kernel_rfl|(intro w;kernel_rfl)|decide|(constructor<;>first|kernel_rfl|(intro w;kernel_rfl))
open Go.RowKit in
theorem Tryz.strings_IndexByte (s:ByteArray) (c:Int) (w:World):Calls Tryz.prog 141 #[.string s,.int .u8 c] w fun e w'=>e=.returned (.int .i64 (Lib.indexByte s.data.toList c.toNat.toUInt8))∧w'=w:=Any.strings_IndexByte zfk s c w
def Tryz.lays103_ren:Go.Shelf.Ren:=z0V
theorem zfl:Go.Proofs.Lays.n103 Tryz.prog Tryz.lays103_ren:=by constructor<;>first|kernel_rfl|(intro w;kernel_rfl)|decide|(constructor<;>first|kernel_rfl|(intro w;kernel_rfl))
open Go.RowKit in
theorem Tryz.strings_CutPrefix (s p:ByteArray) (w:World):Calls Tryz.prog 277 #[.string s,.string p] w fun e w'=>e=.returned (.tuple #[.string ⟨(Lib.trimPrefix s.data.toList p.data.toList).toArray⟩,.bool (Lib.hasPrefix s.data.toList p.data.toList)])∧w'=w:=Any.strings_CutPrefix zfl s p w
def Tryz.lays104_ren:Go.Shelf.Ren:=z0V
theorem zfm:Go.Proofs.Lays.n104 Tryz.prog Tryz.lays104_ren:=by constructor<;>first|kernel_rfl|(intro w;kernel_rfl)|decide|(constructor<;>first|kernel_rfl|(intro w;kernel_rfl))
open Go.RowKit in
theorem Tryz.strings_CutSuffix (s p:ByteArray) (w:World) (hs:s.size≤9223372036854775807):Calls Tryz.prog 138 #[.string s,.string p] w fun e w'=>e=.returned (.tuple #[.string ⟨(Lib.trimSuffix s.data.toList p.data.toList).toArray⟩,.bool (Lib.hasSuffix s.data.toList p.data.toList)])∧w'=w:=Any.strings_CutSuffix zfm s p w hs
open Go.RowKit in
theorem Tryz.Builder_WriteByte_k (B b:Nat) (bs:List Value) (c:Int) (w:World) (h:Lib.IsBuilderF 142 5 B b bs w) (hlen:bs.length+1≤140737488355328) (hBw:B≤w.heap.size):Calls Tryz.prog 114 #[.pointer (some ⟨b,0,none⟩),.int .u8 c] w fun e w'=>e=.returned .nilIface∧(Lib.BuilderAtF 142 5 B b (.pointer (some ⟨b,0,none⟩)) (bs++ [.int .u8 c]) w'∧Below B w w'∧Lib.OthersKept 5 (some b) w w'):=Any.Builder_WriteByte_k zfe z7P B b bs c w h hlen hBw
open Go.RowKit in
theorem Tryz.Builder_WriteString_k (B b:Nat) (bs:List Value) (s:ByteArray) (w:World) (h:Lib.IsBuilderF 142 5 B b bs w) (hlen:bs.length+s.size≤140737488355328) (hBw:B≤w.heap.size):Calls Tryz.prog 96 #[.pointer (some ⟨b,0,none⟩),.string s] w fun e w'=>e=.returned (.tuple #[.int .i64 s.size,.nilIface])∧(Lib.BuilderAtF 142 5 B b (.pointer (some ⟨b,0,none⟩)) (bs++Lib.strCells s) w'∧Below B w w'∧Lib.OthersKept 5 (some b) w w'):=Any.Builder_WriteString_k zff z7Q B b bs s w h hlen hBw
open Go.RowKit in
theorem Tryz.Builder_String_any_k (B b:Nat) (l:List UInt8) (w:World) (h:Lib.IsBuilderF 142 5 B b (Lib.byteCells l) w) (hBw:B≤w.heap.size):Calls Tryz.prog 97 #[.pointer (some ⟨b,0,none⟩)] w fun e w'=>e=.returned (.string ⟨l.toArray⟩)∧(Lib.IsBuilderF 142 5 B b (Lib.byteCells l) w'∧Below B w w'∧Lib.OthersKept 5 (some b) w w'):=Any.Builder_String_any_k zfg z7R B b l w h hBw
def Tryz.lays283_ren:Go.Shelf.Ren:=z0V
theorem zfn:Go.Proofs.Lays.n283 Tryz.prog Tryz.lays283_ren:=by constructor<;>first|kernel_rfl|(intro w;kernel_rfl)|decide|(constructor<;>first|kernel_rfl|(intro w;kernel_rfl))
open Go.Lib in
theorem Tryz.internal_strconv_small (i:Nat) (h:i<100) (w:World):Calls Tryz.prog 254 #[.int .i64 i] w fun e w'=>e=.returned (.string ⟨(Lib.decDigits i).toArray⟩)∧w'=w:=Any.internal_strconv_small zfn i h w
def Tryz.laysM284_ren:Go.Shelf.Ren:=z0V
theorem ze3:Go.Proofs.LaysM.n284 Tryz.prog Tryz.laysM284_ren:=by constructor<;>first|kernel_rfl|(intro w;kernel_rfl)|decide|(constructor<;>first|kernel_rfl|(intro w;kernel_rfl))
open Go.Lib in
theorem Tryz.internal_strconv_numDigits (u:Nat) (h1:1≤u) (h2:u<18446744073709551616) (w:World) (htab:Lib.TabIs Tryz.prog w "internal/strconv.uint64pow10" .u64 Lib.pow10Tab):Calls Tryz.prog 255 #[.int .u64 u] w fun e w'=>e=.returned (.int .i64 (Lib.nDigits u))∧w'=w:=Any.internal_strconv_numDigits ze3 u h1 h2 w htab
def Tryz.lays285_ren:Go.Shelf.Ren:=z0V
theorem zfo:Go.Proofs.Lays.n285 Tryz.prog Tryz.lays285_ren:=by constructor<;>first|kernel_rfl|(intro w;kernel_rfl)|decide|(constructor<;>first|kernel_rfl|(intro w;kernel_rfl))
open Go.RowKit Go.Sort Go.Lib in
theorem Tryz.internal_strconv_formatBase10 (blk off cap:Nat) (u:Nat) (d:Array UInt8) (w:World) (hH:Holds (fun(b:UInt8)=>Value.int .u8 (b.toNat:Int)) w blk off d) (hu:u<10^d.size) (hu64:u<18446744073709551616) (hsz:d.size<4611686018427387904):Calls Tryz.prog 256 #[.slice (some ⟨blk,off,none⟩) d.size cap,.int .u64 u] w fun e w'=>e=.returned (.tuple #[])∧∃(n v':Nat) (dk:Array UInt8),w'=(putRow (fun(b:UInt8)=>Value.int .u8 (b.toNat:Int)) w blk off dk).drewN n∧FmtInv d.size u 0 v' dk:=Any.internal_strconv_formatBase10 zfo blk off cap u d w hH hu hu64 hsz
def Tryz.laysM171_ren:Go.Shelf.Ren:=z0V
theorem ze4:Go.Proofs.LaysM.n171 Tryz.prog Tryz.laysM171_ren:=by constructor<;>first|kernel_rfl|(intro w;kernel_rfl)|decide|(constructor<;>first|kernel_rfl|(intro w;kernel_rfl))
open Go.RowKit Go.Sort Go.Lib in
theorem Tryz.strconv_Itoa (n:Int) (h0: -9223372036854775808≤n) (h1:n≤9223372036854775807) (w:World) (htab:Lib.TabIs Tryz.prog w "internal/strconv.uint64pow10" .u64 Lib.pow10Tab):Calls Tryz.prog 106 #[.int .i64 n] w fun e w'=>e=.returned (.string ⟨(Lib.itoa n).toArray⟩)∧∃k os,w'=grow (w.drewN k) os:=Any.strconv_Itoa ze4 n h0 h1 w htab
def Tryz.laysPu14_ren:Go.Shelf.Ren:=zc5
theorem z6E:Go.Proofs.LaysPu.n14 Tryz.prog Tryz.laysPu14_ren:=by constructor<;>first|kernel_rfl|(intro w;kernel_rfl)|decide|(constructor<;>first|kernel_rfl|(intro w;kernel_rfl))
open Go.RowKit in
theorem Tryz.strconv_ParseUint_10_at16_ok (s:ByteArray) (hmax:s.size≤9223372036854775806) (u:Nat) (h:Lib.parseUintB 16 s.data.toList=.ok u) (w:World):Calls Tryz.prog 249 #[.string s,.int .i64 10,.int .i64 16] w fun e w'=>e=.returned (.tuple #[.int .u64 u,.nilIface])∧(w'=w∨w'=Lib.bytesWorld w 5 s):=Any.strconv_ParseUint_10_at16_ok z6E s hmax u h w
open Go.RowKit in
theorem Tryz.strconv_ParseUint_10_at16_syntax (s:ByteArray) (hlim:s.size≤281474976710656) (h:Lib.parseUintB 16 s.data.toList=.«syntax») (ev:Value) (w:World) (hv:w.cell? ⟨25,0,none⟩=some ev) (hev:ev=.nilIface∨∃te pe,ev=.iface te pe):Calls Tryz.prog 249 #[.string s,.int .i64 10,.int .i64 16] w fun e w'=>∃N,e=.returned (.tuple #[.int .u64 0,.iface 301 (.pointer (some ⟨N,0,none⟩))])∧w.heap.size≤N∧w'.heap[N]?=some (.cells #[.string ⟨#[80,97,114,115,101,85,105,110,116]⟩,.string s,ev] 311 (0,0))∧Below w.heap.size w w':=Any.strconv_ParseUint_10_at16_syntax z6E s hlim h ev w hv hev
open Go.RowKit in
theorem Tryz.strconv_ParseUint_10_at16_range (s:ByteArray) (hlim:s.size≤281474976710656) (h:Lib.parseUintB 16 s.data.toList=.range) (ev:Value) (w:World) (hv:w.cell? ⟨26,0,none⟩=some ev) (hev:ev=.nilIface∨∃te pe,ev=.iface te pe):Calls Tryz.prog 249 #[.string s,.int .i64 10,.int .i64 16] w fun e w'=>∃N,e=.returned (.tuple #[.int .u64 65535,.iface 301 (.pointer (some ⟨N,0,none⟩))])∧w.heap.size≤N∧w'.heap[N]?=some (.cells #[.string ⟨#[80,97,114,115,101,85,105,110,116]⟩,.string s,ev] 311 (0,0))∧Below w.heap.size w w':=Any.strconv_ParseUint_10_at16_range z6E s hlim h ev w hv hev
def Tryz.lays144_ren:Go.Shelf.Ren:=z0V
theorem zfp:Go.Proofs.Lays.n144 Tryz.prog Tryz.lays144_ren:=by constructor<;>first|kernel_rfl|(intro w;kernel_rfl)|decide|(constructor<;>first|kernel_rfl|(intro w;kernel_rfl))
open Go.RowKit Go.Lib in
theorem Tryz.strings_Contains_one (s:ByteArray) (c:UInt8) (w:World):Calls Tryz.prog 230 #[.string s,.string ⟨#[c]⟩] w fun e w'=>e=.returned (.bool (decide (0≤Lib.indexByte s.data.toList c)))∧w'=w:=Any.strings_Contains_one zfp s c w
def Tryz.lays145_ren:Go.Shelf.Ren:=z0V
theorem zfq:Go.Proofs.Lays.n145 Tryz.prog Tryz.lays145_ren:=by constructor<;>first|kernel_rfl|(intro w;kernel_rfl)|decide|(constructor<;>first|kernel_rfl|(intro w;kernel_rfl))
open Go.RowKit Go.Lib in
theorem Tryz.strings_Cut (s sep:ByteArray) (m:Int) (w:World) (hs:s.size<4294967281) (hm:w.cell? ⟨16,0,none⟩=some (.int .i64 m)):Calls Tryz.prog 112 #[.string s,.string sep] w fun e w'=>e=.returned (.tuple #[.string ⟨(Lib.cut s.data.toList sep.data.toList).1.toArray⟩,.string ⟨(Lib.cut s.data.toList sep.data.toList).2.1.toArray⟩,.bool (Lib.cut s.data.toList sep.data.toList).2.2])∧∃n,w'=w.drewN n:=Any.strings_Cut zfq s sep m w hs hm
def Tryz.lays149_ren:Go.Shelf.Ren:=z0V
theorem zfr:Go.Proofs.Lays.n149 Tryz.prog Tryz.lays149_ren:=by constructor<;>first|kernel_rfl|(intro w;kernel_rfl)|decide|(constructor<;>first|kernel_rfl|(intro w;kernel_rfl))
open Go.RowKit Go.Lib in
theorem Tryz.strings_LastIndexByte (s:ByteArray) (c:Int) (hs:s.size<4611686018427387904) (w:World):Calls Tryz.prog 316 #[.string s,.int .u8 c] w fun e w'=>e=.returned (.int .i64 (Lib.lastIndexByte s c))∧w'=w:=Any.strings_LastIndexByte zfr s c hs w
def Tryz.lays237_ren:Go.Shelf.Ren:=z0V
theorem zfs:Go.Proofs.Lays.n237 Tryz.prog Tryz.lays237_ren:=by constructor<;>first|kernel_rfl|(intro w;kernel_rfl)|decide|(constructor<;>first|kernel_rfl|(intro w;kernel_rfl))
open Go.RowKit Go.Lib in
theorem Tryz.strings_TrimFunc (g:Nat) (lb:Array Value) (eg:∀args w,(callFunc g args).run Tryz.prog w=.ok (.enter g args) w) (p:Nat→Bool) (s:ByteArray) (w:World) (hs:s.size≤9223372036854775807) (hT:Lib.Utf8Tabs 21 22 w) (hp:PredAt Tryz.prog g lb encR p w):Calls Tryz.prog 152 #[.string s,.func (.func g) #[] lb] w fun e w'=>e=.returned (.string (Lib.trimF p s))∧Below w.heap.size w w':=Any.strings_TrimFunc zfs g lb eg p s w hs hT hp
def Tryz.lays99_ren:Go.Shelf.Ren:=z0V
theorem zgr:Go.Proofs.Lays.n99 Tryz.prog Tryz.lays99_ren:=by constructor<;>first|kernel_rfl|(intro w;kernel_rfl)|decide|(constructor<;>first|kernel_rfl|(intro w;kernel_rfl))
open Go.RowKit Go.Lib in
theorem Tryz.strings_HasPrefix (s p:ByteArray) (w:World):Calls Tryz.prog 82 #[.string s,.string p] w fun e w'=>e=.returned (.bool (Lib.hasPrefix s.data.toList p.data.toList))∧w'=w:=Any.strings_HasPrefix zgr s p w
def Tryz.lays101_ren:Go.Shelf.Ren:=z0V
theorem zft:Go.Proofs.Lays.n101 Tryz.prog Tryz.lays101_ren:=by constructor<;>first|kernel_rfl|(intro w;kernel_rfl)|decide|(constructor<;>first|kernel_rfl|(intro w;kernel_rfl))
open Go.RowKit Go.Lib in
theorem Tryz.strings_TrimPrefix (s p:ByteArray) (w:World):Calls Tryz.prog 165 #[.string s,.string p] w fun e w'=>e=.returned (.string ⟨(Lib.trimPrefix s.data.toList p.data.toList).toArray⟩)∧w'=w:=Any.strings_TrimPrefix zft s p w
def Tryz.lays146_ren:Go.Shelf.Ren:=z0V
theorem zfu:Go.Proofs.Lays.n146 Tryz.prog Tryz.lays146_ren:=by constructor<;>first|kernel_rfl|(intro w;kernel_rfl)|decide|(constructor<;>first|kernel_rfl|(intro w;kernel_rfl))
open Go.RowKit Go.Lib in
theorem Tryz.strings_Split (s sep:ByteArray) (m:Int) (w:World) (hs:s.size<4294967281) (hm:w.cell? ⟨16,0,none⟩=some (.int .i64 m)) (h1:1≤sep.size):Calls Tryz.prog 132 #[.string s,.string sep] w fun e w'=>e=.returned (.slice (some ⟨w.heap.size,0,none⟩) (Lib.countB s sep+1) (Lib.countB s sep+1))∧w'=w.alloc (.cells ((Lib.splitB sep 0 (Lib.countB s sep) s).map Value.string).toArray 9):=Any.strings_Split zfu (by kernel_rfl) s sep m w hs hm h1
def Tryz.lays155_ren:Go.Shelf.Ren:=z0V
theorem zfv:Go.Proofs.Lays.n155 Tryz.prog Tryz.lays155_ren:=by constructor<;>first|kernel_rfl|(intro w;kernel_rfl)|decide|(constructor<;>first|kernel_rfl|(intro w;kernel_rfl))
theorem z7T:Builder.Extra Tryz.prog Tryz.lays155_ren:=by constructor<;>first|kernel_rfl|(intro w;kernel_rfl)|decide|(constructor<;>first|kernel_rfl|(intro w;kernel_rfl))
open Go.RowKit Go.Lib in
theorem Tryz.strings_ReplaceAll (s old new:ByteArray) (m:Int) (w:World) (hs:s.size<4294967281) (hm:w.cell? ⟨16,0,none⟩=some (.int .i64 m)) (h1:1≤old.size) (hlen:s.size+Lib.countB s old*new.size≤140737488355328):Calls Tryz.prog 107 #[.string s,.string old,.string new] w fun e w'=>e=.returned (.string ⟨(Lib.replaceAll s.data.toList old.data.toList new.data.toList).toArray⟩)∧Below w.heap.size w w':=Any.strings_ReplaceAll zfv z7T s old new m w hs hm h1 hlen
def Tryz.laysNm216_ren:Go.Shelf.Ren:=zc6
theorem z6g:Go.Proofs.Lays2.n16 Tryz.prog Tryz.laysNm216_ren:=by constructor<;>first|kernel_rfl|(intro w;kernel_rfl)|decide|(constructor<;>first|kernel_rfl|(intro w;kernel_rfl))
open Go.RowKit Go.Lib in
theorem Tryz.slices_Clone_string (b off n c:Nat) (zs:List ByteArray) (w:World) (hz:n≤zs.length) (hbig:n*16≤140737488355328) (hc:∀j,j<zs.length→w.cell? ⟨b,off+j,none⟩=some (.string (zs.getD j ByteArray.empty))):Calls Tryz.prog 250 #[.slice (some ⟨b,off,none⟩) n c] w fun e w'=>∃v',e=.returned v'∧w'.ownsRow w.heap.size 9 1 v' n ((zs.take n).map (Value.string))∧v'≠.slice none 0 0∧Below w.heap.size w w':=Any.slices_Clone_string z6g b off n c zs w hz hbig hc
open Go.RowKit Go.Lib in
theorem Tryz.slices_Clone_string_nil (n c:Nat) (w:World):Calls Tryz.prog 250 #[.slice none n c] w fun e w'=>e=.returned (.slice none 0 0)∧w'=w:=Any.slices_Clone_string_nil z6g n c w
open Go.RowKit Go.Lib in
theorem Tryz.slices_Clone_string_zero (a:Addr) (c:Nat) (w:World):Calls Tryz.prog 250 #[.slice (some a) 0 c] w fun e w'=>∃v',e=.returned v'∧w'.ownsRow w.heap.size 9 1 v' 0 []∧v'≠.slice none 0 0∧Below w.heap.size w w':=Any.slices_Clone_string_zero z6g a c w
end Go.Proofs
namespace Go.Moor
open Go
def tab:List Int:=[4294967295,9223372036854775808,18446744073709551615,18446744073709551615,5764607548804038655,9223372041149743104,18446744073709551615,18446744073709551615,5764607583163777023,9223372036854775808,18446744073709551615,18446744073709551615,5764608132919590911,9223372036854775808,18446744073709551615,18446744073709551615,14987979620018552831,12105675803740602368,18446744073709551615,18446744073709551615,18158654495175737343,13258597309286973441,18446744073709551615,18446744073709551615,18158681364491141119,13258597309286973441,18446744073709551615,18446744073709551615]
def z3O (k:Nat):Int:=tab.getD k 0
def z0n (s b:Int):Bool:=(decide (0≤s)&&decide (s<7))&&(bits .and .u64 (z3O (s.toNat*4+(b/64).toNat)/2^(b%64).toNat) 1==1)
def z0T (n:Nat):UInt8:=if n<10 then(48+n).toUInt8 else(55+n).toUInt8
def z43 (s:Int) (c:UInt8):List UInt8:=if z0n s c.toNat then [37,z0T (c.toNat/16),z0T (c.toNat%16)] else [c]
def esc (s:Int) (l:List UInt8):List UInt8:=l.flatMap (z43 s)
def z0c (b:Int):Int:=if 48≤b∧b≤57 then b- 48 else if 65≤b∧b≤70 then b- 55 else if 97≤b∧b≤102 then b- 87 else 16
def z1u:List UInt8→Bool
 |a::b::_=>decide (z0c a.toNat<16)&&decide (z0c b.toNat<16)
 |_=>false
def z49 (a b:UInt8):UInt8:=(16*(z0c a.toNat).toNat+(z0c b.toNat).toNat).toUInt8
def z0t:List UInt8→List UInt8
 | []=>[]
 |c::[]=>[c]
 |c::a::[]=>[c,a]
 |c::a::b::r=>if c=37 then(if z1u (a::b::r) then z49 a b::z0t r else 37::z0t (a::b::r)) else c::z0t (a::b::r)
theorem z3M (c:UInt8) (l:List UInt8) (h:c≠37):z0t (c::l)=c::z0t l:=by
 match l with
 | []=>simp[z0t]
 | [a]=>simp[z0t]
 |a::b::r=>rw[z0t,if_neg h]
theorem z37 (a b:UInt8) (r:List UInt8) (h:z1u (a::b::r)=true):z0t (37::a::b::r)=z49 a b::z0t r:=by rw[z0t,if_pos rfl,if_pos h]
theorem z3S (l:List UInt8) (h:z1u l=false):z0t (37::l)=37::z0t l:=by
 match l with
 | []=>simp[z0t]
 | [a]=>simp[z0t]
 |a::b::r=>rw[z0t,if_pos rfl,if_neg (by simp[h])]
theorem z9B (p l:List UInt8) (h:∀c∈p,c≠37):z0t (p++l)=p++z0t l:=by
 induction p with
 |nil=>rfl
 |cons c p ih=>rw[List.cons_append,z3M c _ (h c (by simp)),ih (fun x hx=>h x (by simp[hx]))];rfl
theorem z7M (p:List UInt8) (h:∀c∈p,c≠37):z0t p=p:=by have:=z9B p [] h;simpa[z0t] using this
theorem z2D (c:UInt8):∀l:List UInt8,(Lib.indexByte l c= -1∧∀x∈l,x≠c)∨∃p r,l=p++c::r∧(∀x∈p,x≠c)∧Lib.indexByte l c=(p.length:Int)
 | []=>Or.inl ⟨rfl,by simp⟩
 |b::l=>by
  by_cases hb:b=c
  ·subst hb
   exact Or.inr ⟨[],l,rfl,by simp,by simp[Lib.indexByte]⟩
  ·rcases z2D c l with⟨h1,h2⟩|⟨p,r,rfl,h2,h3⟩
   ·refine Or.inl ⟨?_,?_⟩
    ·simp[Lib.indexByte,hb,h1]
    ·intro x hx
     rcases List.mem_cons.1 hx with rfl|hx
     ·exact hb
     ·exact h2 x hx
   ·refine Or.inr ⟨b::p,r,rfl,?_,?_⟩
    ·intro x hx
     rcases List.mem_cons.1 hx with rfl|hx
     ·exact hb
     ·exact h2 x hx
    ·have:¬((p.length:Int)= -1):=by omega
     simp[Lib.indexByte,hb,h3,this]
theorem zd9 (c:UInt8) (l:List UInt8):(Lib.cut l [c]=(l,[],false)∧∀x∈l,x≠c)∨∃p r,l=p++c::r∧(∀x∈p,x≠c)∧Lib.cut l [c]=(p,r,true):=by
 rcases z2D c l with⟨h1,h2⟩|⟨p,r,hl,h2,h3⟩
 ·refine Or.inl ⟨?_,h2⟩
  unfold Lib.cut;rw[Lib.index_one,h1];simp
 ·refine Or.inr ⟨p,r,hl,h2,?_⟩
  unfold Lib.cut;rw[Lib.index_one,h3];subst hl;simp
theorem z1q (b:Int):0≤z0c b∧z0c b≤16:=by unfold z0c;split;omega;split;omega;split<;>omega
theorem zjg:∀c:Fin 256,z49 (z0T (c.val/16)) (z0T (c.val%16))=c.val.toUInt8∧z0c (z0T (c.val/16)).toNat<16∧z0c (z0T (c.val%16)).toNat<16:=by decide+kernel
theorem zbJ (c:UInt8):z49 (z0T (c.toNat/16)) (z0T (c.toNat%16))=c∧z0c (z0T (c.toNat/16)).toNat<16∧z0c (z0T (c.toNat%16)).toNat<16:=by have h:=zjg ⟨c.toNat,c.toNat_lt⟩;simpa using h
theorem zkX (s:Int) (c:UInt8):(z43 s c).length=1+2*(z0n s c.toNat).toNat:=by
 unfold z43;split<;>rename_i h
 ·simp[h]
 ·simp[Bool.eq_false_iff.2 h]
def cnt (s:Int) (l:List UInt8):Nat:=(l.map fun c=>(z0n s c.toNat).toNat).sum
theorem za0 (s:Int):∀l:List UInt8,(esc s l).length=l.length+2*cnt s l
 | []=>rfl
 |c::l=>by
  show(z43 s c++esc s l).length=_;rw[List.length_append,zkX,za0 s l];simp[cnt];omega
theorem zji (s:Int):∀l:List UInt8,cnt s l≤l.length
 | []=>by simp[cnt]
 |c::l=>by
  have:=zji s l;have hb:(z0n s c.toNat).toNat≤1:=by cases z0n s c.toNat<;>simp
  simp[cnt] at this⊢;omega
theorem zjj (s:ByteArray) (k:Nat) (h:k<s.size):s.data.toList.take (k+1)=s.data.toList.take k++ [s[k]]:=by rw[List.take_succ_eq_append_getElem (by simpa using h)];rfl
theorem z07 (l:List UInt8):(⟨l.toArray⟩:ByteArray).size=l.length:=by simp[ByteArray.size]
theorem zom:∀x y:Fin 16,IntKind.u8.wrap (bits .or .u64 (IntKind.u64.wrap ((x.val:Int)*16)) (y.val:Int))=((16*x.val+y.val).toUInt8.toNat:Int):=by decide+kernel
theorem zmR (a b:UInt8) (l:List UInt8) (h:z1u (a::b::l)=true):IntKind.u8.wrap (bits .or .u64 (IntKind.u64.wrap (z0c a.toNat*16)) (z0c b.toNat))=((z49 a b).toNat:Int):=by
 have h':z0c a.toNat<16∧z0c b.toNat<16:=by simpa[z1u] using h
 have ra:=z1q a.toNat;have rb:=z1q b.toNat;have:=zom ⟨(z0c a.toNat).toNat,by omega⟩ ⟨(z0c b.toNat).toNat,by omega⟩;unfold z49;rw[←this];simp only[Int.toNat_of_nonneg ra.1,Int.toNat_of_nonneg rb.1]
theorem z5o:∀(n:Nat) (l:List UInt8),l.length≤n→(z0t l).length≤l.length
 |0,l,h=>by
  have:l=[]:=List.length_eq_zero_iff.1 (by omega);subst this;simp[z0t]
 |n+1,[],_=>by simp[z0t]
 |n+1,c::l,h=>by
  by_cases hc:c=37
  ·subst hc
   by_cases ht:z1u l=true
   ·match l,ht,h with
    |a::b::r,ht,h=>rw[z37 a b r ht];have:=z5o n r (by simp at h;omega);simp;omega
   ·rw[z3S l (Bool.eq_false_iff.2 ht)]
    have:=z5o n l (by simp at h;omega);simp;omega
  ·rw[z3M c l hc]
   have:=z5o n l (by simp at h;omega);simp;omega
def z2t (ws:List Int) (b:Int):Bool:=bits .and .u64 (ws.getD (b/64).toNat 0/2^(b%64).toNat) 1==1
def z5i (ws:List Int) (c:UInt8):List UInt8:=if z2t ws c.toNat then [37,z0T (c.toNat/16),z0T (c.toNat%16)] else [c]
def z44 (ws:List Int) (l:List UInt8):List UInt8:=l.flatMap (z5i ws)
def z2O (s:Int):List Int:=if 0≤s∧s<7 then [z3O (s.toNat*4),z3O (s.toNat*4+1),z3O (s.toNat*4+2),z3O (s.toNat*4+3)] else [0,0,0,0]
theorem zf0 (s:Int) (c:UInt8):z2t (z2O s) c.toNat=z0n s c.toNat:=by
 have hc:=c.toNat_lt;have hq:((c.toNat:Int)/64).toNat=0∨((c.toNat:Int)/64).toNat=1∨((c.toNat:Int)/64).toNat=2∨((c.toNat:Int)/64).toNat=3:=by omega
 unfold z2t z2O z0n;by_cases h:0≤s∧s<7
 ·have e1:=decide_eq_true h.1
  have e2:=decide_eq_true h.2;rw[if_pos h,e1,e2,Bool.and_self,Bool.true_and];rcases hq with hq|hq|hq|hq<;>rw[hq]<;>rfl
 ·rw[if_neg h]
  have e:(decide (0≤s)&&decide (s<7))=false:=by
   by_cases h0:0≤s
   ·have:¬s<7:=fun h7=>h ⟨h0,h7⟩
    simp[this]
   ·simp[h0]
  rw[e,Bool.false_and];have z:([0,0,0,0]:List Int).getD ((c.toNat:Int)/64).toNat 0=0:=by rcases hq with hq|hq|hq|hq<;>rw[hq]<;>rfl
  rw[z,Int.zero_ediv];decide
theorem zon (s:Int) (l:List UInt8):z44 (z2O s) l=esc s l:=by
 have:z5i (z2O s)=z43 s:=by funext c;unfold z5i z43;rw[zf0]
 unfold z44 esc;rw[this]
theorem zjk (ws:List Int) (l:List UInt8) (c:UInt8):z44 ws (l++ [c])=z44 ws l++z5i ws c:=by simp[z44,List.flatMap_append]
theorem zf1 (ws:List Int):∀l:List UInt8,(z44 ws l).length≤3*l.length
 | []=>by simp[z44]
 |c::l=>by
  have:=zf1 ws l;have h1:(z5i ws c).length≤3:=by unfold z5i;split<;>simp
  show(z5i ws c++z44 ws l).length≤_;rw[List.length_append,List.length_cons];omega
end Go.Moor
namespace Go.Proofs
open Go.RowKit Go.Moor Go.Proofs.Tryz
def zpl (w:World):Prop:=∀k,k<28→w.cell? ⟨13,k,none⟩=some (.int .u64 (z3O k))
theorem zku (a b c d:Int) (x:UInt8) (w:World):CB 168 #[.agg #[.int .u64 a,.int .u64 b,.int .u64 c,.int .u64 d],.int .u8 x.toNat] w (.bool (z2t [a,b,c,d] x.toNat)):=by
 have HB:Hid (∀o:Obj,Below w.heap.size w (w.alloc o)):=fun o=>(Below.refl _ _).alloc (Nat.le_refl _) o;have hlt:=x.toNat_lt;have hq:(x.toNat:Int)/64=0∨(x.toNat:Int)/64=1∨(x.toNat:Int)/64=2∨(x.toNat:Int)/64=3:=by omega
 have hx0:0≤(x.toNat:Int):=by omega
 have hx1:(x.toNat:Int)<256:=by omega
 obtain⟨y,hy⟩:=z09 (x.toNat:Int);rw[←hy] at hq hx0 hx1⊢;clear hy hlt;rcases hq with hq|hq|hq|hq
 ·have HW:Hid (z2t [a,b,c,d] y=(bits .and .u64 (a/2^(y%64).toNat) 1==1)):=by show _=_;unfold z2t;rw[hq];rfl
  go_enter func168,ntmps168;go_wp2;go_ret;rw[HW.out];exact⟨rfl,HB _⟩
 ·have HW:Hid (z2t [a,b,c,d] y=(bits .and .u64 (b/2^(y%64).toNat) 1==1)):=by show _=_;unfold z2t;rw[hq];rfl
  go_enter func168,ntmps168;go_wp2;go_ret;rw[HW.out];exact⟨rfl,HB _⟩
 ·have HW:Hid (z2t [a,b,c,d] y=(bits .and .u64 (c/2^(y%64).toNat) 1==1)):=by show _=_;unfold z2t;rw[hq];rfl
  go_enter func168,ntmps168;go_wp2;go_ret;rw[HW.out];exact⟨rfl,HB _⟩
 ·have HW:Hid (z2t [a,b,c,d] y=(bits .and .u64 (d/2^(y%64).toNat) 1==1)):=by show _=_;unfold z2t;rw[hq];rfl
  go_enter func168,ntmps168;go_wp2;go_ret;rw[HW.out];exact⟨rfl,HB _⟩
theorem zcQ {w:World} {o:Obj} {p:Go.Addr} {v:Value} (h:w.cell? p=some v) (hz:p.block<w.heap.size):(w.alloc o).cell? p=some v:=by rw[((Below.refl w.heap.size w).alloc (Nat.le_refl _) o).cell hz];exact h
section
variable {P : Program}
theorem zah (w:World) (g off:Nat) (ty:TypeId) (cs:Array Value) (d:TypeDesc) (hc:∀(j:Nat) v,cs.toList[j]?=some v→w.cell? ⟨g,off+j,none⟩=some v) (hu:P.underlying ty=some d) (hd:(match d with| .struct _| .array _ _=>true|_=>false)=true) (hi:(P.info? ty).map (·.size)=some cs.size):(loadVar ty ⟨g,off,none⟩).run P w=.ok (.agg cs) w:=by
 have hl:=
  run_loadCells_list (P:=P) w ⟨g,off,none⟩ cs.toList (fun j v hv=>by
   have hadd:(⟨g,off,none⟩:Go.Addr).add j=⟨g,off+j,none⟩:=(by unfold Go.Addr.add;split<;>simp_all);rw[hadd];exact hc j v hv)
 cases hq:P.info? ty with
 |none=>simp[hq] at hi
 |some i=>
  have hs:i.size=cs.size:=by simpa[hq] using hi
  have hagg:(isAgg ty).run P w=.ok true w:=by unfold isAgg;rw[Sem.run_bind,run_underlying hu w];cases d<;>simp_all
  simp only[Array.length_toList,Array.toArray_toList] at hl;simp[loadVar,Sem.run_bind,hagg,sizeOf,typeInfo,hq,hs,hl]
theorem zej {o:Oper} {a:Act} {w:World} {K:Act→World→Prop} {Q:Exit→Act→World→Prop} (ty:TypeId) (x:Operand) (ho:o.op=.load ty x) (g off:Nat) (hx:a.eval x=.pointer (some ⟨g,off,none⟩)) (cs:Array Value) (d:TypeDesc) (hc:∀(j:Nat) v,cs.toList[j]?=some v→w.cell? ⟨g,off+j,none⟩=some v) (hu:P.underlying ty=some d) (hd:(match d with| .struct _| .array _ _=>true|_=>false)=true) (hi:(P.info? ty).map (·.size)=some cs.size) (h:K (a.put o.dst (.agg cs)) w):o.wp P a w K Q:=by unfold Oper.wp execOp;simp only[ho,hx,Instr.loadAt,Instr.sureAddr,Sem.run_bind,Sem.run_pure,Result.andThen_ok,zah w g off ty cs d hc hu hd hi];exact h
theorem zai {ops:Array Oper} {rest:List Oper} {o:Oper} {a:Act} {w:World} {Q:Exit→Act→World→Prop} (hgd:o.guard=none) (ty:TypeId) (x:Operand) (ho:o.op=.load ty x) (g off:Nat) (hx:a.eval x=.pointer (some ⟨g,off,none⟩)) (cs:Array Value) (d:TypeDesc) (hc:∀(j:Nat) v,cs.toList[j]?=some v→w.cell? ⟨g,off+j,none⟩=some v) (hu:P.underlying ty=some d) (hd:(match d with| .struct _| .array _ _=>true|_=>false)=true) (hi:(P.info? ty).map (·.size)=some cs.size) (h:wpList P ops Q rest (a.put o.dst (.agg cs)) w):wpList P ops Q (o::rest) a w:=
 wpList_plain hgd fun _ hK=>zej ty x ho g off hx cs d hc hu hd hi (hK _ _ h)
end
theorem zpb:(prog.info? 153).map (·.size)=some 4:=by kernel_rfl
def z7H:Array Value:=#[.int .u64 0,.int .u64 0,.int .u64 0,.int .u64 0]
def z4j (a b c d:Int):Array Value:=#[.int .u64 a,.int .u64 b,.int .u64 c,.int .u64 d]
theorem ziI (a b c d:Int):(z4j a b c d).all (·.oneCell')=true:=by simp[z4j,Value.oneCell']
theorem zo7 (s:Int) (a b c d:Int) (w:World) (h0:0≤s) (h1:s<7) (hz:13<w.heap.size) (ha:w.cell? ⟨13,s.toNat*4,none⟩=some (.int .u64 a)) (hb:w.cell? ⟨13,s.toNat*4+1,none⟩=some (.int .u64 b)) (hc:w.cell? ⟨13,s.toNat*4+2,none⟩=some (.int .u64 c)) (hd:w.cell? ⟨13,s.toNat*4+3,none⟩=some (.int .u64 d)):CB 108 #[.int .i64 s] w (.agg #[.int .u64 a,.int .u64 b,.int .u64 c,.int .u64 d]):=by
 obtain⟨W,hW⟩:=z09 (w.alloc (.cells z7H 153));have HBW:Hid (Below w.heap.size w W):=by rw[hW];exact(Below.refl _ _).alloc (Nat.le_refl _) _
 have HC:Hid (∀(j:Nat) v,(z4j a b c d).toList[j]?=some v→W.cell? ⟨13,s.toNat*4+j,none⟩=some v):=by
  intro j v hj;rw[hW];refine zcQ ?_ hz;match j,hj with
  |0,hj=>cases hj;exact ha
  |1,hj=>cases hj;exact hb
  |2,hj=>cases hj;exact hc
  |3,hj=>cases hj;exact hd
  |n+4,hj=>cases hj
 clear ha hb hc hd;have HN:Hid (W.heap[w.heap.size]?=some (.cells z7H 153 (0,0))):=by show _=_;rw[hW];exact heap_alloc_new w _
 go_enter func108,ntmps108;go_wp2_with(first|refine zai rfl 153 _ rfl 13 (s.toNat*4) rfl (z4j a b c d) _ (by have:=HC;rw[hW] at this;exact this) underlying153 rfl zpb ?_|refine wpList_store_row rfl 153 _ _ rfl w.heap.size (z4j a b c d) rfl rfl 153 z7H (by have:=HN;rw[hW] at this;exact this) zpb rfl (ziI a b c d) ?_);(try simp only[Exit.inBlock,Exit.then]);refine bodyPost_ret (v:=.agg (z4j a b c d)) ?_ rfl ⟨rfl,?_⟩
 ·exact results_cell_row rfl _ _ w.heap.size 153 (z4j a b c d) (0,0) _ rfl (setRow_heap _ w.heap.size z7H (z4j a b c d) 153 (0,0) (by have:=HN;rw[hW] at this;exact this)) underlying153 rfl zpb
 ·refine below_setRow ?_ (Nat.le_refl _) _
  have:=HBW;rw[hW] at this;exact this
theorem znK (s:Int) (w:World) (h0:s<0):CB 108 #[.int .i64 s] w (.agg #[.int .u64 0,.int .u64 0,.int .u64 0,.int .u64 0]):=by have HB:Hid (∀o:Obj,Below w.heap.size w (w.alloc o)):=fun o=>(Below.refl _ _).alloc (Nat.le_refl _) o;go_enter func108,ntmps108;go_wp2;refine bodyPost_ret (v:=.agg z7H) ?_ rfl ⟨rfl,HB _⟩;exact results_cell_row rfl _ _ w.heap.size 153 z7H (0,0) _ rfl (heap_alloc_new w _) underlying153 rfl zpb
theorem zmt (s:Int) (w:World) (h0:7≤s):CB 108 #[.int .i64 s] w (.agg #[.int .u64 0,.int .u64 0,.int .u64 0,.int .u64 0]):=by have HB:Hid (∀o:Obj,Below w.heap.size w (w.alloc o)):=fun o=>(Below.refl _ _).alloc (Nat.le_refl _) o;go_enter func108,ntmps108;go_wp2;refine bodyPost_ret (v:=.agg z7H) ?_ rfl ⟨rfl,HB _⟩;exact results_cell_row rfl _ _ w.heap.size 153 z7H (0,0) _ rfl (heap_alloc_new w _) underlying153 rfl zpb
def zck (ws:List Int):Value:=.agg #[.int .u64 (ws.getD 0 0),.int .u64 (ws.getD 1 0),.int .u64 (ws.getD 2 0),.int .u64 (ws.getD 3 0)]
theorem znL (s:Int) (w:World) (hs:zpl w) (hz:13<w.heap.size):CB 108 #[.int .i64 s] w (zck (z2O s)):=by
 by_cases h0:s<0
 ·have e:z2O s=[0,0,0,0]:=by unfold z2O;rw[if_neg (by omega)]
  rw[e];exact znK s w h0
 ·by_cases h1:7≤s
  ·have e:z2O s=[0,0,0,0]:=by unfold z2O;rw[if_neg (by omega)]
   rw[e];exact zmt s w h1
  ·have e:z2O s=[z3O (s.toNat*4),z3O (s.toNat*4+1),z3O (s.toNat*4+2),z3O (s.toNat*4+3)]:=by unfold z2O;rw[if_pos (by omega)]
   rw[e];exact zo7 s _ _ _ _ w (by omega) (by omega) hz (hs _ (by omega)) (hs _ (by omega)) (hs _ (by omega)) (hs _ (by omega))
theorem znM (s:Int) (c:UInt8) (w:World) (hs:zpl w) (hz:13<w.heap.size):CB 142 #[.int .i64 s,.int .u8 c.toNat] w (.bool (z0n s c.toNat)):=by
 have HS:=hI (znL s w hs hz);have HE:Hid (z2t [(z2O s).getD 0 0,(z2O s).getD 1 0,(z2O s).getD 2 0,(z2O s).getD 3 0] c.toNat=z0n s c.toNat):=by show _=_;rw[←zf0];unfold z2O;split<;>rfl
 unfold zck at HS;generalize(z2O s).getD 0 0=a0 at*;generalize(z2O s).getD 1 0=a1 at*;generalize(z2O s).getD 2 0=a2 at*;generalize(z2O s).getD 3 0=a3 at*;clear hs hz;go_enter func142,ntmps142;go_wp2_with fail;refine HS.out.mono ?_;rintro e w1 ⟨rfl,b1⟩;go_wp2_with fail;refine(zku a0 a1 a2 a3 c w1).mono ?_;rintro e w2 ⟨rfl,b2⟩;go_wp2;go_ret;rw[HE.out];exact⟨rfl,b1.trans (b2.mono b1.size)⟩
theorem znN (b:Int) (w:World) (hb0:0≤b) (hb1:b<256) (h:48≤b∧b≤57):C0 115 #[.int .u8 b] w (.int .u64 (z0c b)):=by
 have hv:z0c b=b- 48:=by unfold z0c;rw[if_pos h]
 rw[hv];obtain⟨h1,h2⟩:=h;clear hv;go_enter func115,ntmps115;go_wp2;go_ret;exact⟨rfl,rfl⟩
theorem znO (b:Int) (w:World) (hb0:0≤b) (hb1:b<256) (h:65≤b∧b≤70):C0 115 #[.int .u8 b] w (.int .u64 (z0c b)):=by
 have hv:z0c b=b- 65+10:=by unfold z0c;rw[if_neg (by omega),if_pos h];omega
 rw[hv];obtain⟨h1,h2⟩:=h;clear hv;go_enter func115,ntmps115;go_wp2;go_ret;exact⟨rfl,rfl⟩
theorem zlX (b:Int) (w:World) (hb0:0≤b) (hb1:b<256) (h:97≤b∧b≤102):C0 115 #[.int .u8 b] w (.int .u64 (z0c b)):=by
 have hv:z0c b=b- 97+10:=by unfold z0c;rw[if_neg (by omega),if_neg (by omega),if_pos h];omega
 rw[hv];obtain⟨h1,h2⟩:=h;clear hv;go_enter func115,ntmps115;go_wp2;go_ret;exact⟨rfl,rfl⟩
theorem zmu (b:Int) (w:World) (hb0:0≤b) (hb1:b<256) (h1:¬(48≤b∧b≤57)) (h2:¬(65≤b∧b≤70)) (h3:¬(97≤b∧b≤102)):C0 115 #[.int .u8 b] w (.int .u64 (z0c b)):=by
 have hv:z0c b=16:=by unfold z0c;rw[if_neg h1,if_neg h2,if_neg h3]
 rw[hv];clear hv;have hh:(b<48)∨(57<b∧b<65)∨(70<b∧b<97)∨102<b:=by omega
 clear h1 h2 h3;rcases hh with h|⟨h,h'⟩|⟨h,h'⟩|h<;>go_enter func115,ntmps115<;>go_wp2<;>go_ret<;>exact⟨rfl,rfl⟩
theorem znP (b:Int) (w:World) (hb0:0≤b) (hb1:b<256):C0 115 #[.int .u8 b] w (.int .u64 (z0c b)):=by
 by_cases h1:48≤b∧b≤57
 ·exact znN b w hb0 hb1 h1
 ·by_cases h2:65≤b∧b≤70
  ·exact znO b w hb0 hb1 h2
  ·by_cases h3:97≤b∧b≤102
   ·exact zlX b w hb0 hb1 h3
   ·exact zmu b w hb0 hb1 h1 h2 h3
def Tryz.allB (base:Int) (l:List UInt8):Bool:=l.all fun c=>decide (z0c c.toNat<base)
theorem zo8 (base:Int) (s:ByteArray) (k:Nat) (h:k<s.size):allB base (s.data.toList.drop k)=(decide (z0c s[k].toNat<base)&&allB base (s.data.toList.drop (k+1))):=by unfold allB;rw[List.drop_eq_getElem_cons (by simpa using h),List.all_cons];rfl
theorem zoB (s:ByteArray) (base:Int) (w:World) (hs:s.size≤maxLen):C0 170 #[.string s,.int .u64 base] w (.bool (allB base s.data.toList)):=by
 unfold maxLen at hs;have HA:Hid (allB base s.data.toList=allB base (s.data.toList.drop 0)):=by simp[Hid]
 rw[HA.out];generalize hgo:allB base (s.data.toList.drop 0)=goal;have HG:=hI hgo;clear hgo HA;go_enter func170,ntmps170;go_wp2;go_loop [5] (fun i=>∃k:Nat,k≤s.size∧i=.int .i64 k∧allB base (s.data.toList.drop k)=goal) (fun i=>s.size-(intOf i).toNat)
 case atStart=>exact⟨0,Nat.zero_le _,rfl,HG⟩
 case round=>
  obtain⟨k,hk,rfl,hrest⟩:=hrel;have HR:=hI hrest;clear hrest;by_cases hlt:k<s.size
  ·have hc:=s[k].toNat_lt
   by_cases hd:z0c s[k].toNat<base
   ·go_wp2_with(go_at_call 115;refine(znP _ _ (by omega) (by omega)).mono ?_;rintro e w' ⟨rfl,rfl⟩)
    go_round
    case rel=>exact⟨k+1,by omega,by go_num,by have:=HR;rw[zo8 base s k hlt,decide_eq_true hd,Bool.true_and] at this;exact this⟩
    case measure=>simp[intOf];omega
   ·go_wp2_with(go_at_call 115;refine(znP _ _ (by omega) (by omega)).mono ?_;rintro e w' ⟨rfl,rfl⟩)
    go_ret;refine⟨?_,rfl⟩;have:=HR;rw[zo8 base s k hlt,decide_eq_false (by omega),Bool.false_and] at this;rw[←this];rfl
  ·go_wp2
   go_ret;refine⟨?_,rfl⟩;have:=HR;rw[List.drop_eq_nil_of_le (by simp;omega)] at this;rw[←this];rfl
theorem zpc (s:ByteArray) (h:2≤s.size):∃a b r,s.data.toList=a::b::r∧(s.extract 0 2).data.toList=[a,b]∧s[0]=a∧s[1]=b∧(s.extract 2 s.size).data.toList=r:=by
  match hl:s.data.toList with
  | [] => have : s.data.toList.length = s.size := by simp
          rw[hl] at this;simp at this;omega
  | [a] => have : s.data.toList.length = s.size := by simp
           rw[hl] at this;simp at this;omega
  |a::b::r=>
    refine⟨a,b,r,rfl,?_,?_,?_,?_⟩
    ·rw[Lib.extract_data,hl];rfl
    · have : s[0] = s.data.toList[0]'(by simp; omega) := rfl
      rw[this];simp[hl]
    · have : s[1] = s.data.toList[1]'(by simp; omega) := rfl
      rw[this];simp[hl]
    · rw [Lib.extract_data, hl]
      have:s.data.toList.length=s.size:=by simp
      rw[hl] at this;simp at this;rw[←this];simp
theorem zoC (s:ByteArray) (w:World) (hs:s.size≤maxLen):C0 113 #[.string s] w (.bool (z1u s.data.toList)):=by
  by_cases h2:2≤s.size
  · obtain ⟨a, b, r, e1, _, _, _, _⟩ := zpc s h2
    have HT:Hid (z1u s.data.toList=allB 16 (List.take 2 s.data.toList)):=(by rw[e1];simp[z1u,allB,Hid]);rw[HT.out];clear e1 HT;have hz:(s.extract 0 2).size≤maxLen:=(by rw[ByteArray.size_extract];unfold maxLen;omega);unfold maxLen at hs;go_enter func113,ntmps113;go_wp2_with(go_at_call 170;refine(zoB _ 16 _ hz).mono ?_;rintro e w' ⟨rfl,rfl⟩);go_ret;exact⟨rfl,rfl⟩
  · have ht : z1u s.data.toList = false := by
      match hl:s.data.toList with
      | []=>rfl
      | [a]=>rfl
      | a :: b :: r => have : s.data.toList.length = s.size := by simp
                       rw[hl] at this;simp at this;omega
    rw[ht];unfold maxLen at hs;clear ht;go_enter func113,ntmps113;go_wp2;go_ret;exact⟨rfl,rfl⟩
theorem zmg {w w':World} (h:zpl w) (hb:Below w.heap.size w w') (hz:13<w.heap.size):zpl w':=by intro k hk;rw[hb.cell (p:=⟨13,k,none⟩) hz];exact h k hk
def zpg:ByteArray:=⟨#[48,49,50,51,52,53,54,55,56,57,65,66,67,68,69,70]⟩
theorem zoz:∀n:Fin 16,zpg.data.toList.getD n.val 0=z0T n.val:=by decide+kernel
theorem zoP (n:Nat) (h:n<zpg.size):zpg[n]=z0T n:=by have h16:n<16:=h;have:=zoz ⟨n,h16⟩;show zpg.data.toList[n]'h=_;rw[←this,List.getD_eq_getElem?_getD,List.getElem?_eq_getElem (by exact h)];rfl
theorem znk (c:UInt8):Lib.byteCells [c]=[.int .u8 c.toNat]:=rfl
theorem z7l {T e:TypeId} {B b:Nat} {bs:List Value} {w w':World} (h:Lib.IsBuilderF T e B b bs w) (hb:Below w.heap.size w w'):Lib.IsBuilderF T e B b bs w':=by
 have key:∀p,Lib.BuilderAtF T e B b p bs w→Lib.BuilderAtF T e B b p bs w':=by
  rintro p ⟨hB,v,h1,h2,h3⟩;refine⟨hB,v,?_,⟨h2.1,?_⟩,h3⟩
  ·rw[hb.block b (Array.getElem?_eq_some_iff.1 h1).1]
   exact h1
  ·rcases h2.2 with h|⟨g,cap,cur,fz,e1,e2,e3,e4⟩
   ·exact Or.inl h
   ·refine Or.inr ⟨g,cap,cur,fz,e1,e2,?_,e4⟩
    rw[hb.block g (Array.getElem?_eq_some_iff.1 e3).1];exact e3
 exact h.elim (fun x=>Or.inl (key _ x)) (fun x=>Or.inr (key _ x))
theorem zjX (s:ByteArray) (ws:List Int) (hws:∃a b c d,ws=[a,b,c,d]) (w:World) (hs:s.size≤35184372088832):CB 109 #[zck ws,.string s] w (.string ⟨(z44 ws s.data.toList).toArray⟩):=by
 obtain⟨a0,a1,a2,a3,hw⟩:=hws;have HW:Hid (ws=[a0,a1,a2,a3]):=hw;have hv:zck ws=.agg #[.int .u64 a0,.int .u64 a1,.int .u64 a2,.int .u64 a3]:=by rw[hw];rfl
 rw[hv];clear hv hw;obtain⟨W,hW⟩:∃W,W=w.alloc (.cells #[.int .u64 a0,.int .u64 a1,.int .u64 a2,.int .u64 a3] 153):=⟨_,rfl⟩;have HBW:Hid (Below w.heap.size w W):=by rw[hW];exact(Below.refl _ _).alloc (Nat.le_refl _) _
 have hWz:W.heap.size=w.heap.size+1:=by rw[hW];simp
 have HSR:Hid (W.heap[w.heap.size]?=some (.cells (z4j a0 a1 a2 a3) 153 (0,0))):=by show _=_;rw[hW];exact heap_alloc_new w _
 go_enter func109,ntmps109;go_wp2;rw[←hW];have HW0:Hid (Lib.IsBuilderF 142 5 (w.heap.size+1) (w.heap.size+1) (Lib.byteCells []) (W.alloc (.cells #[.pointer none,.slice none 0 0] 142))):=by have h:=Lib.IsBuilderF.of (Lib.fresh_isBuilder 142 5 W);rw[hWz] at h;exact h
 have HBA:Hid (Below (w.heap.size+1) W (W.alloc (.cells #[.pointer none,.slice none 0 0] 142))):=(Below.refl _ _).alloc (by omega) _;clear hW;go_loopw [6] (fun i wr=>∃k:Nat,k≤s.size∧i=.int .i64 k∧Lib.IsBuilderF 142 5 (w.heap.size+1) (w.heap.size+1) (Lib.byteCells (z44 ws (s.data.toList.take k))) wr∧Below (w.heap.size+1) W wr∧w.heap.size+1<wr.heap.size) (fun i _=>s.size-(intOf i).toNat)
 case atStart=>exact⟨0,Nat.zero_le _,rfl,HW0.out,HBA.out,by simp[hWz]⟩
 case round=>
  obtain⟨k,hk,rfl,hI,hbw,hsz⟩:=hrel;have hlen:=zf1 ws (s.data.toList.take k);have hl:(s.data.toList.take k).length≤k:=List.length_take_le _ _;have HL:Hid ((z44 ws (s.data.toList.take k)).length≤3*k):=by show _≤_;omega
  clear hlen hl;by_cases hlt:k<s.size
  ·have HT:Hid (z44 ws (s.data.toList.take (k+1))=z44 ws (s.data.toList.take k)++z5i ws s[k]):=by show _=_;rw[zjj s k hlt,zjk]
   have hc:=s[k].toNat_lt;by_cases hh:z2t ws s[k].toNat=true
   ·have HH:Hid (∀W,CB 168 #[.agg #[.int .u64 a0,.int .u64 a1,.int .u64 a2,.int .u64 a3],.int .u8 s[k].toNat] W (.bool true)):=by
     intro W;have:=zku a0 a1 a2 a3 s[k] W;rw[←HW.out,hh] at this;exact this
    have HSW:Hid (wr.heap[w.heap.size]?=some (.cells (z4j a0 a1 a2 a3) 153 (0,0))):=(hbw.block w.heap.size (by omega)).trans HSR.out;go_wp2_with(refine wpList_load_row rfl 153 _ rfl w.heap.size rfl 153 (z4j a0 a1 a2 a3) (0,0) _ HSW.out underlying153 rfl zpb ?_);refine(HH.out wr).mono ?_;rintro e W0 ⟨rfl,b0⟩;have hI0:=z7l hI b0;have hb0:=hbw.trans (b0.mono (by omega));have hz0:w.heap.size+1<W0.heap.size:=Nat.lt_of_lt_of_le hsz b0.size;clear hI hbw hsz b0;go_wp2_with fail;refine(Builder_WriteByte_k (w.heap.size+1) (w.heap.size+1) _ _ _ hI0 (by rw[Lib.byteCells_length];have:=HL.out;omega) (by omega)).mono ?_;rintro e W1 ⟨rfl,h1,b1,_⟩;have hI1:Lib.IsBuilderF 142 5 (w.heap.size+1) (w.heap.size+1) (Lib.byteCells (z44 ws (s.data.toList.take k)++ [37])) W1:=(by rw[Lib.byteCells_append];exact Or.inr h1);have hb1:=hb0.trans b1;have hz1:w.heap.size+1<W1.heap.size:=Nat.lt_of_lt_of_le hz0 b1.size;clear h1 b1;go_wp2_with fail;refine(Builder_WriteByte_k (w.heap.size+1) (w.heap.size+1) _ _ _ hI1 (by rw[Lib.byteCells_length];have:=HL.out;simp;omega) (by omega)).mono ?_;rintro e W2 ⟨rfl,h2,b2,_⟩;have hI2:Lib.IsBuilderF 142 5 (w.heap.size+1) (w.heap.size+1) (Lib.byteCells (z44 ws (s.data.toList.take k)++ [37,z0T (s[k].toNat/16)])) W2:=(by rw[show z44 ws (s.data.toList.take k)++ [37,z0T (s[k].toNat/16)]=(z44 ws (s.data.toList.take k)++ [37])++ [z0T (s[k].toNat/16)] by simp,Lib.byteCells_append,znk,←zoP (s[k].toNat/16) (by show _<16;omega)];exact Or.inr h2);have hb2:=hb1.trans b2;have hz2:w.heap.size+1<W2.heap.size:=Nat.lt_of_lt_of_le hz1 b2.size;clear h2 b2 hI1 hb1 hz1;go_wp2_with fail;refine(Builder_WriteByte_k (w.heap.size+1) (w.heap.size+1) _ _ _ hI2 (by rw[Lib.byteCells_length];have:=HL.out;simp;omega) (by omega)).mono ?_;rintro e W3 ⟨rfl,h3,b3,_⟩;have hI3:Lib.IsBuilderF 142 5 (w.heap.size+1) (w.heap.size+1) (Lib.byteCells (z44 ws (s.data.toList.take (k+1)))) W3:=(by rw[HT.out,show z5i ws s[k]=[37,z0T (s[k].toNat/16)]++ [z0T (s[k].toNat%16)] by simp[z5i,hh],←List.append_assoc,Lib.byteCells_append,znk,←zoP (s[k].toNat%16) (by show _<16;omega)];exact Or.inr h3);have hb3:=hb2.trans b3;have hz3:w.heap.size+1<W3.heap.size:=Nat.lt_of_lt_of_le hz2 b3.size;clear h3 b3 hI2 hb2 hz2;go_wp2;go_roundw
    case rel=>exact⟨k+1,by omega,by go_num,hI3,hb3,hz3⟩
    case measure=>simp[intOf];omega
   ·have hh':z2t ws s[k].toNat=false:=Bool.eq_false_iff.2 hh
    clear hh;have HH:Hid (∀W,CB 168 #[.agg #[.int .u64 a0,.int .u64 a1,.int .u64 a2,.int .u64 a3],.int .u8 s[k].toNat] W (.bool false)):=by intro W;have:=zku a0 a1 a2 a3 s[k] W;rw[←HW.out,hh'] at this;exact this
    have HSW:Hid (wr.heap[w.heap.size]?=some (.cells (z4j a0 a1 a2 a3) 153 (0,0))):=(hbw.block w.heap.size (by omega)).trans HSR.out;go_wp2_with(refine wpList_load_row rfl 153 _ rfl w.heap.size rfl 153 (z4j a0 a1 a2 a3) (0,0) _ HSW.out underlying153 rfl zpb ?_);refine(HH.out wr).mono ?_;rintro e W0 ⟨rfl,b0⟩;have hI0:=z7l hI b0;have hb0:=hbw.trans (b0.mono (by omega));have hz0:w.heap.size+1<W0.heap.size:=Nat.lt_of_lt_of_le hsz b0.size;clear hI hbw hsz b0;go_wp2_with fail;refine(Builder_WriteByte_k (w.heap.size+1) (w.heap.size+1) _ _ _ hI0 (by rw[Lib.byteCells_length];have:=HL.out;omega) (by omega)).mono ?_;rintro e W1 ⟨rfl,h1,b1,_⟩;have hI1:Lib.IsBuilderF 142 5 (w.heap.size+1) (w.heap.size+1) (Lib.byteCells (z44 ws (s.data.toList.take (k+1)))) W1:=(by rw[HT.out,show z5i ws s[k]=[s[k]] by simp[z5i,hh'],Lib.byteCells_append];exact Or.inr h1);have hb1:=hb0.trans b1;have hz1:w.heap.size+1<W1.heap.size:=Nat.lt_of_lt_of_le hz0 b1.size;clear h1 b1;go_wp2;go_roundw
    case rel=>exact⟨k+1,by omega,by go_num,hI1,hb1,hz1⟩
    case measure=>simp[intOf];omega
  ·go_wp2_with(go_at_call 97;refine(Builder_String_any_k (w.heap.size+1) (w.heap.size+1) _ _ hI (by omega)).mono ?_)
   rintro e W1 ⟨rfl,_,b1,_⟩;go_wp2;go_ret;rw[List.take_of_length_le (by simp;omega)];exact⟨rfl,HBW.out.trans ((hbw.trans b1).mono (by omega))⟩
theorem z6G (s:ByteArray) (set:Int) (w:World) (hs:s.size≤35184372088832) (hset:zpl w) (hz:13<w.heap.size):CB 62 #[.string s,.int .i64 set] w (.string ⟨(esc set s.data.toList).toArray⟩):=by have HS:=hI (znL set w hset hz);have HE:Hid (z44 (z2O set) s.data.toList=esc set s.data.toList):=zon set _;have HT:=hI fun W=>zjX s (z2O set) (by unfold z2O;split;exact⟨_,_,_,_,rfl⟩;exact⟨_,_,_,_,rfl⟩) W hs;generalize z44 (z2O set) s.data.toList=l at*;generalize z2O set=ws at*;clear hset hz;go_enter func62,ntmps62;go_wp2_with fail;refine HS.out.mono ?_;rintro e w1 ⟨rfl,b1⟩;go_wp2_with fail;refine(HT w1).mono ?_;rintro e w2 ⟨rfl,b2⟩;go_wp2;go_ret;rw[HE.out];exact⟨rfl,b1.trans (b2.mono b1.size)⟩
theorem zmh (s:ByteArray) (set:Int) (w:World) (hs:s.size≤35184372088832) (hset:zpl w) (hz:13<w.heap.size):CB 39 #[.string s,.int .i64 set] w (.string ⟨(esc set s.data.toList).toArray⟩):=by go_enter func39,ntmps39;go_wp2_with(go_at_call 62;refine(z6G _ _ _ hs hset hz).mono ?_);rintro e w' ⟨rfl,hb⟩;go_wp2;go_ret;exact⟨rfl,hb⟩
end Go.Proofs
