import Derived.Shelf.Strings.Builder1
import Derived.Shelf.Strings.Builder2
import Derived.Shelf.Strings.OnBuilder
import Derived.Shelf.Small.Utf8
import Derived.Shelf.Small.Bits
import Derived.Shelf.Small.Strs
import Derived.Shelf.Small.Wraps
import Derived.Shelf.Strconv.Itoa0
import Derived.Shelf.Strconv.Itoa1
import Derived.Shelf.LaysM
import Derived.Shelf.Strconv.Itoa2
import Derived.Shelf.Strconv.Itoa3
import Derived.Shelf.Strings.Search1
import Derived.Shelf.Strings.Search2
import Derived.Shelf.Strings.Search3
import Derived.Shelf.Strings.Cut
import Derived.Shelf.Strings.Count
import Derived.Shelf.Strings.Shaped
import Derived.Shelf.Strings.Prefix
import Derived.Shelf.Strings.Split
import Derived.Shelf.Strings.SplitShaped
import Derived.Shelf.Unicode.Latin
import Derived.Shelf.Unicode.DecodeSlow
import Derived.Shelf.Unicode.CaseLookup
import Derived.Shelf.Unicode.CaseConvert
import Derived.Shelf.Unicode.CaseTo
import Derived.Shelf.Unicode.CaseLaid
import Derived.Shelf.Bytes.IndexByte
import Derived.Test.YtnfakamfmkhlbabGreatDoorProg
import Derived.Shelf.Spec.TrailingZeros
import Derived.Shelf.SlGeneric
import Derived.Shelf.SlSortCmp.NoneTotal
set_option maxRecDepth 100000
namespace Go.Proofs
open Go.Shelf
theorem sz{p:Prop}(h:p:=by repeat' first|kernel_rfl|exact fun _=>rfl|decide|constructor):p:=h
theorem sf{n:Nat}{a b:Func}(h:Tryz.prog.funcs[n]?=some a)(e:a=b:=by kernel_rfl):Tryz.prog.funcs[n]?=some b:=h.trans (congrArg some e)
def Tryz.lays156_ren:Ren:=⟨fun|156=>291|165=>301|166=>302|169=>304|240=>340|241=>341|276=>361|277=>362|n=>n,fun|31=>43|72=>348|76=>352|70=>346|37=>145|75=>351|127=>380|80=>99|n=>n,fun|n=>n⟩
theorem Tryz.lays156:Lays.n156 Tryz.prog Tryz.lays156_ren:=sz
theorem Tryz.Builder_Extra_156:Builder.Extra Tryz.prog Tryz.lays156_ren:=sz
open Go.RowKit in
theorem Tryz.strings_Join (bk o c:Nat)(xs:List ByteArray)(sep:ByteArray)(w:World)(hcells:∀ (j:Nat) x,xs[j]?=some x->w.cell? ⟨bk,o + j,none⟩=some (.string x))(hbk:bk<w.heap.size)(hN:xs.length<=140737488355328)(hcap:xs.length<=c)(hlen:(Lib.join (xs.map (·.data.toList)) sep.data.toList).length<=140737488355328):Calls Tryz.prog 291 #[.slice (some ⟨bk,o,none⟩) xs.length c,.string sep] w fun e w'=>e=.returned (.string ⟨(Lib.join (xs.map (·.data.toList)) sep.data.toList).toArray⟩)/\Below w.heap.size w w':=Any.strings_Join Tryz.lays156 Tryz.Builder_Extra_156 bk o c xs sep w hcells hbk hN hcap hlen
def Tryz.lays137_ren:Ren:=⟨fun|137=>200|217=>249|266=>300|n=>n,fun|n=>n,fun|n=>n⟩
theorem Tryz.lays137:Lays.n137 Tryz.prog Tryz.lays137_ren:=sz
open Go.RowKit in
theorem Tryz.strings_IndexByte (s:ByteArray)(c:Int)(w:World):Calls Tryz.prog 200 #[.string s,.int .u8 c] w fun e w'=>e=.returned (.int .i64 (Lib.indexByte s.data.toList c.toNat.toUInt8))/\w'=w:=Any.strings_IndexByte Tryz.lays137 s c w
def Tryz.lays103_ren:Ren:=⟨fun|103=>216|210=>262|206=>311|n=>n,fun|24=>239|n=>n,fun|n=>n⟩
theorem Tryz.lays103:Lays.n103 Tryz.prog Tryz.lays103_ren:=sz
open Go.RowKit in
theorem Tryz.strings_CutPrefix (s p:ByteArray)(w:World):Calls Tryz.prog 216 #[.string s,.string p] w fun e w'=>e=.returned (.tuple #[.string ⟨(Lib.trimPrefix s.data.toList p.data.toList).toArray⟩,.bool (Lib.hasPrefix s.data.toList p.data.toList)])/\w'=w:=Any.strings_CutPrefix Tryz.lays103 s p w
def Tryz.laysM171_ren:Ren:=⟨fun|171=>160|243=>238|246=>286|283=>323|284=>324|285=>325|286=>326|129=>338|317=>351|318=>352|319=>353|320=>354|337=>367|338=>208|n=>n,fun|171=>365|53=>23|37=>145|173=>367|212=>388|51=>60|213=>389|46=>256|232=>411|233=>67|n=>n,fun|17=>8|18=>10|19=>2|n=>n⟩
theorem Tryz.laysM171:LaysM.n171 Tryz.prog Tryz.laysM171_ren:=sz
open Go.RowKit Go.Sort Go.Lib in
theorem Tryz.strconv_Itoa (n:Int)(h0:-9223372036854775808<=n)(h1:n<=9223372036854775807)(w:World)(htab:Lib.TabIs Tryz.prog w "internal/strconv.uint64pow10" .u64 Lib.pow10Tab):Calls Tryz.prog 160 #[.int .i64 n] w fun e w'=>e=.returned (.string ⟨(Lib.itoa n).toArray⟩)/\∃ k os,w'=grow (w.drewN k) os:=Any.strconv_Itoa Tryz.laysM171 n h0 h1 w htab
def Tryz.lays147_ren:Ren:=⟨fun|147=>136|221=>214|268=>259|138=>260|143=>261|195=>308|197=>274|218=>309|219=>310|260=>318|217=>249|225=>347|224=>348|267=>349|266=>300|314=>366|n=>n,fun|31=>43|105=>322|46=>256|119=>384|139=>387|138=>386|146=>403|51=>60|n=>n,fun|1=>4|3=>6|4=>7|n=>n⟩
theorem Tryz.lays147:Lays.n147 Tryz.prog Tryz.lays147_ren:=sz
open Go.RowKit Go.Lib in
theorem Tryz.strings_SplitN (s sep:ByteArray)(n:Nat)(m:Int)(w:World)(hs:s.size<4294967281)(hm:w.cell? ⟨4,0,none⟩=some (.int .i64 m))(h1:1<=sep.size)(hn:1<=n)(hn63:n<=9223372036854775807):Calls Tryz.prog 136 #[.string s,.string sep,.int .i64 n] w fun e w'=>e=.returned (.slice (some ⟨w.heap.size,0,none⟩) (Lib.splitB sep 0 (min n (s.size + 1) - 1) s).length (min n (s.size + 1)))/\w'=w.alloc (.cells (Lib.cellsOf (Lib.splitB sep 0 (min n (s.size + 1) - 1) s) (min n (s.size + 1))) 9):=Any.strings_SplitN Tryz.lays147 (by kernel_rfl) s sep n m w hs hm h1 hn hn63
def Tryz.lays158_ren:Ren:=⟨fun|158=>250|165=>301|166=>302|167=>303|169=>304|230=>305|203=>306|240=>340|241=>341|197=>274|118=>342|168=>343|270=>344|262=>345|276=>361|277=>362|260=>318|242=>363|313=>364|278=>369|274=>370|275=>371|n=>n,fun|72=>348|76=>352|75=>351|107=>356|70=>346|37=>145|127=>380|105=>322|162=>402|203=>400|119=>384|46=>256|139=>387|138=>386|51=>60|160=>408|208=>415|206=>413|80=>99|n=>n,fun|13=>9|3=>6|4=>7|n=>n⟩
theorem Tryz.lays158:Lays.n158 Tryz.prog Tryz.lays158_ren:=sz
theorem Tryz.Builder_Extra_158:Builder.Extra Tryz.prog Tryz.lays158_ren:=sz
open Go.RowKit in
theorem Tryz.strings_ToUpper_ascii (s:ByteArray)(w:World)(hs:s.size<=140737488355328)(hascii:∀ (j:Nat)(b:UInt8),s.data.toList[j]?=some b->b.toNat<128):Calls Tryz.prog 250 #[.string s] w fun e w'=>e=.returned (.string ⟨(Lib.toUpperA s.data.toList).toArray⟩)/\Below w.heap.size w w':=Any.strings_ToUpper_ascii Tryz.lays158 Tryz.Builder_Extra_158 s w hs hascii
def Tryz.lays7x29_ren:Ren:=⟨fun|29=>208|n=>n,fun|22=>23|25=>256|54=>67|n=>n,fun|1=>2|n=>n⟩
theorem Tryz.lays7x29:Lays7.n29 Tryz.prog Tryz.lays7x29_ren:=sz
def Tryz.sortL_ren:Ren:=⟨fun|6=>245|15=>298|14=>297|28=>337|29=>338|20=>329|21=>330|22=>331|23=>332|24=>333|25=>334|26=>335|27=>336|46=>356|47=>357|48=>358|49=>359|50=>360|57=>368|n=>n,fun|22=>122|24=>87|25=>265|39=>256|53=>60|55=>23|46=>374|45=>373|50=>188|66=>391|70=>395|76=>405|77=>406|n=>n,fun|n=>n⟩
theorem Tryz.sortL:SlLaysF0.n6 Tryz.prog Tryz.sortL_ren:={mixed:=by kernel_rfl,f6:=⟨Tryz.f245.name,by decide,sf Tryz.func245⟩,f14:=⟨Tryz.f297.name,by decide,sf Tryz.func297⟩,f15:=sf Tryz.func298,f20:=⟨Tryz.f329.name,by decide,sf Tryz.func329⟩,f21:=⟨Tryz.f330.name,by decide,sf Tryz.func330⟩,f22:=⟨Tryz.f331.name,by decide,sf Tryz.func331⟩,f23:=⟨Tryz.f332.name,by decide,sf Tryz.func332⟩,f24:=⟨Tryz.f333.name,by decide,sf Tryz.func333⟩,f25:=⟨Tryz.f334.name,by decide,sf Tryz.func334⟩,f26:=⟨Tryz.f335.name,by decide,sf Tryz.func335⟩,f27:=⟨Tryz.f336.name,by decide,sf Tryz.func336⟩,f28:=sf Tryz.func337,f29:=sf Tryz.func338,f46:=⟨Tryz.f356.name,by decide,sf Tryz.func356⟩,f47:=sf Tryz.func357,f48:=sf Tryz.func358,f49:=⟨Tryz.f359.name,by decide,sf Tryz.func359⟩,f50:=⟨Tryz.f360.name,by decide,sf Tryz.func360⟩,f57:=⟨Tryz.f368.name,by decide,sf Tryz.func368⟩,t0:=Tryz.underlying0,a0:=Tryz.isAgg0,z0:=Tryz.sizeOf0,v0:=Tryz.zeroValue0,t3:=Tryz.underlying3,a3:=Tryz.isAgg3,z3:=Tryz.sizeOf3,v3:=Tryz.zeroValue3,t4:=Tryz.underlying4,a4:=Tryz.isAgg4,z4:=Tryz.sizeOf4,v4:=Tryz.zeroValue4,t5:=Tryz.underlying5,a5:=Tryz.isAgg5,z5:=Tryz.sizeOf5,v5:=Tryz.zeroValue5,t9:=Tryz.underlying9,a9:=Tryz.isAgg9,z9:=Tryz.sizeOf9,v9:=Tryz.zeroValue9,t22:=Tryz.underlying122,a22:=Tryz.isAgg122,z22:=Tryz.sizeOf122,v22:=Tryz.zeroValue122,t25:=Tryz.underlying265,a25:=Tryz.isAgg265,z25:=Tryz.sizeOf265,v25:=Tryz.zeroValue265,t39:=Tryz.underlying256,a39:=Tryz.isAgg256,z39:=Tryz.sizeOf256,v39:=Tryz.zeroValue256,t45:=Tryz.underlying373,a45:=Tryz.isAgg373,z45:=Tryz.sizeOf373,v45:=Tryz.zeroValue373,t46:=Tryz.underlying374,a46:=Tryz.isAgg374,z46:=Tryz.sizeOf374,v46:=Tryz.zeroValue374,t50:=Tryz.underlying188,a50:=Tryz.isAgg188,z50:=Tryz.sizeOf188,v50:=Tryz.zeroValue188,t53:=Tryz.underlying60,a53:=Tryz.isAgg60,z53:=Tryz.sizeOf60,v53:=Tryz.zeroValue60,t55:=Tryz.underlying23,a55:=Tryz.isAgg23,z55:=Tryz.sizeOf23,v55:=Tryz.zeroValue23,t66:=Tryz.underlying391,a66:=Tryz.isAgg391,z66:=Tryz.sizeOf391,v66:=Tryz.zeroValue391,t70:=Tryz.underlying395,a70:=Tryz.isAgg395,z70:=Tryz.sizeOf395,v70:=Tryz.zeroValue395,t76:=Tryz.underlying405,a76:=Tryz.isAgg405,z76:=Tryz.sizeOf405,v76:=Tryz.zeroValue405,t77:=Tryz.underlying406,a77:=Tryz.isAgg406,z77:=Tryz.sizeOf406,v77:=Tryz.zeroValue406}
def Tryz.lays187x_ren:Ren:=⟨fun|187=>226|255=>272|n=>n,fun|37=>145|n=>n,fun|n=>n⟩
theorem Tryz.lays187x:Lays.n187 Tryz.prog Tryz.lays187x_ren:=sz
def Tryz.lays145_ren:Ren:=⟨fun|145=>228|220=>275|219=>310|217=>249|225=>347|224=>348|267=>349|266=>300|314=>366|n=>n,fun|59=>148|46=>256|146=>403|51=>60|n=>n,fun|1=>4|n=>n⟩
theorem Tryz.lays145:Lays.n145 Tryz.prog Tryz.lays145_ren:=sz
open Go.RowKit Go.Lib in
theorem Tryz.strings_Cut (s sep:ByteArray)(m:Int)(w:World)(hs:s.size<4294967281)(hm:w.cell? ⟨4,0,none⟩=some (.int .i64 m)):Calls Tryz.prog 228 #[.string s,.string sep] w fun e w'=>e=.returned (.tuple #[.string ⟨(Lib.cut s.data.toList sep.data.toList).1.toArray⟩,.string ⟨(Lib.cut s.data.toList sep.data.toList).2.1.toArray⟩,.bool (Lib.cut s.data.toList sep.data.toList).2.2])/\∃ n,w'=w.drewN n:=Any.strings_Cut Tryz.lays145 s sep m w hs hm
def Tryz.lays146_ren:Ren:=⟨fun|146=>321|221=>214|268=>259|138=>260|143=>261|195=>308|197=>274|218=>309|219=>310|260=>318|217=>249|225=>347|224=>348|267=>349|266=>300|314=>366|n=>n,fun|31=>43|105=>322|46=>256|119=>384|139=>387|138=>386|146=>403|51=>60|n=>n,fun|1=>4|3=>6|4=>7|n=>n⟩
theorem Tryz.lays146:Lays.n146 Tryz.prog Tryz.lays146_ren:=sz
open Go.RowKit Go.Lib in
theorem Tryz.strings_Split (s sep:ByteArray)(m:Int)(w:World)(hs:s.size<4294967281)(hm:w.cell? ⟨4,0,none⟩=some (.int .i64 m))(h1:1<=sep.size):Calls Tryz.prog 321 #[.string s,.string sep] w fun e w'=>e=.returned (.slice (some ⟨w.heap.size,0,none⟩) (Lib.countB s sep + 1) (Lib.countB s sep + 1))/\w'=w.alloc (.cells ((Lib.splitB sep 0 (Lib.countB s sep) s).map Value.string).toArray 9):=Any.strings_Split Tryz.lays146 (by kernel_rfl) s sep m w hs hm h1
end Go.Proofs
