import Derived.Shelf.Strings.Builder1
import Derived.Shelf.Strings.Builder2
import Derived.Shelf.Strings.OnBuilder
import Derived.Shelf.Small.Utf8
import Derived.Shelf.Small.Bits
import Derived.Shelf.Small.Strs
import Derived.Shelf.Small.Wraps
import Derived.Shelf.Strconv.Itoa0
import Derived.Shelf.Strconv.Itoa1
import Derived.Shelf.LaysM
import Derived.Shelf.Strconv.Itoa2
import Derived.Shelf.Strconv.Itoa3
import Derived.Shelf.Strings.Search1
import Derived.Shelf.Strings.Search2
import Derived.Shelf.Strings.Search3
import Derived.Shelf.Strings.Cut
import Derived.Shelf.Strings.Count
import Derived.Shelf.Strings.Shaped
import Derived.Shelf.Strings.Prefix
import Derived.Shelf.Strings.Split
import Derived.Shelf.Strings.SplitShaped
import Derived.Shelf.Unicode.Latin
import Derived.Shelf.Unicode.DecodeSlow
import Derived.Shelf.Unicode.CaseLookup
import Derived.Shelf.Unicode.CaseConvert
import Derived.Shelf.Unicode.CaseTo
import Derived.Shelf.Unicode.CaseLaid
import Derived.Shelf.Bytes.IndexByte
import Derived.Test.YtnfakamfmkhlbabGreatDoorProg
import Derived.Shelf.Spec.TrailingZeros
import Derived.Shelf.SlGeneric
import Derived.Shelf.SlSortCmp.NoneTotal
set_option maxRecDepth 100000
set_option linter.all false
namespace Go.Proofs.Tryz
open Go.Shelf
def sz{p:Prop}(h:p:=by repeat' first|kernel_rfl|exact fun _=>rfl|decide|constructor):p:=h
def sf{n:Nat}{a b:Func}(h:prog.funcs[n]?=some a)(e:a=b:=by kernel_rfl):prog.funcs[n]?=some b:=h.trans (congrArg some e)
def y6:Ren:=⟨fun|156=>291|165=>301|166=>302|169=>304|240=>340|241=>341|276=>361|277=>362|n=>n,fun|31=>43|72=>348|76=>352|70=>346|37=>145|75=>351|127=>380|80=>99|n=>n,fun|n=>n⟩
def y14:Lays.n156 prog y6:=sz
def y1:Builder.Extra prog y6:=sz
open Go.RowKit in
def strings_Join(bk o c:Nat)(xs:List ByteArray)(sep:ByteArray)(w:World)(hcells:∀ (j:Nat) x,xs[j]?=some x->w.cell? ⟨bk,o + j,none⟩=some (.string x))(hbk:bk<w.heap.size)(hN:xs.length<=140737488355328)(hcap:xs.length<=c)(hlen:(Lib.join (xs.map (·.data.toList)) sep.data.toList).length<=140737488355328):Calls prog 291 #[.slice (some ⟨bk,o,none⟩) xs.length c,.string sep] w fun e w'=>e=.returned (.string ⟨(Lib.join (xs.map (·.data.toList)) sep.data.toList).toArray⟩)/\Below w.heap.size w w':=Any.strings_Join y14 y1 bk o c xs sep w hcells hbk hN hcap hlen
def y7:Ren:=⟨fun|137=>200|217=>249|266=>300|n=>n,fun|n=>n,fun|n=>n⟩
def y15:Lays.n137 prog y7:=sz
open Go.RowKit in
def strings_IndexByte(s:ByteArray)(c:Int)(w:World):Calls prog 200 #[.string s,.int .u8 c] w fun e w'=>e=.returned (.int .i64 (Lib.indexByte s.data.toList c.toNat.toUInt8))/\w'=w:=Any.strings_IndexByte y15 s c w
def y8:Ren:=⟨fun|103=>216|210=>262|206=>311|n=>n,fun|24=>239|n=>n,fun|n=>n⟩
def y16:Lays.n103 prog y8:=sz
open Go.RowKit in
def strings_CutPrefix(s p:ByteArray)(w:World):Calls prog 216 #[.string s,.string p] w fun e w'=>e=.returned (.tuple #[.string ⟨(Lib.trimPrefix s.data.toList p.data.toList).toArray⟩,.bool (Lib.hasPrefix s.data.toList p.data.toList)])/\w'=w:=Any.strings_CutPrefix y16 s p w
def y3:Ren:=⟨fun|171=>160|243=>238|246=>286|283=>323|284=>324|285=>325|286=>326|129=>338|317=>351|318=>352|319=>353|320=>354|337=>367|338=>208|n=>n,fun|171=>365|53=>23|37=>145|173=>367|212=>388|51=>60|213=>389|46=>256|232=>411|233=>67|n=>n,fun|17=>8|18=>10|19=>2|n=>n⟩
def laysM171:LaysM.n171 prog y3:=sz
open Go.RowKit Go.Sort Go.Lib in
def strconv_Itoa(n:Int)(h0:-9223372036854775808<=n)(h1:n<=9223372036854775807)(w:World)(htab:Lib.TabIs prog w "internal/strconv.uint64pow10" .u64 Lib.pow10Tab):Calls prog 160 #[.int .i64 n] w fun e w'=>e=.returned (.string ⟨(Lib.itoa n).toArray⟩)/\∃ k os,w'=grow (w.drewN k) os:=Any.strconv_Itoa laysM171 n h0 h1 w htab
def y9:Ren:=⟨fun|147=>136|221=>214|268=>259|138=>260|143=>261|195=>308|197=>274|218=>309|219=>310|260=>318|217=>249|225=>347|224=>348|267=>349|266=>300|314=>366|n=>n,fun|31=>43|105=>322|46=>256|119=>384|139=>387|138=>386|146=>403|51=>60|n=>n,fun|1=>4|3=>6|4=>7|n=>n⟩
def lays147:Lays.n147 prog y9:=sz
open Go.RowKit Go.Lib in
def strings_SplitN(s sep:ByteArray)(n:Nat)(m:Int)(w:World)(hs:s.size<4294967281)(hm:w.cell? ⟨4,0,none⟩=some (.int .i64 m))(h1:1<=sep.size)(hn:1<=n)(hn63:n<=9223372036854775807):Calls prog 136 #[.string s,.string sep,.int .i64 n] w fun e w'=>e=.returned (.slice (some ⟨w.heap.size,0,none⟩) (Lib.splitB sep 0 (min n (s.size + 1) - 1) s).length (min n (s.size + 1)))/\w'=w.alloc (.cells (Lib.cellsOf (Lib.splitB sep 0 (min n (s.size + 1) - 1) s) (min n (s.size + 1))) 9):=Any.strings_SplitN lays147 (by kernel_rfl) s sep n m w hs hm h1 hn hn63
def y10:Ren:=⟨fun|158=>250|165=>301|166=>302|167=>303|169=>304|230=>305|203=>306|240=>340|241=>341|197=>274|118=>342|168=>343|270=>344|262=>345|276=>361|277=>362|260=>318|242=>363|313=>364|278=>369|274=>370|275=>371|n=>n,fun|72=>348|76=>352|75=>351|107=>356|70=>346|37=>145|127=>380|105=>322|162=>402|203=>400|119=>384|46=>256|139=>387|138=>386|51=>60|160=>408|208=>415|206=>413|80=>99|n=>n,fun|13=>9|3=>6|4=>7|n=>n⟩
def y17:Lays.n158 prog y10:=sz
def y2:Builder.Extra prog y10:=sz
open Go.RowKit in
def strings_ToUpper_ascii(s:ByteArray)(w:World)(hs:s.size<=140737488355328)(hascii:∀ (j:Nat)(b:UInt8),s.data.toList[j]?=some b->b.toNat<128):Calls prog 250 #[.string s] w fun e w'=>e=.returned (.string ⟨(Lib.toUpperA s.data.toList).toArray⟩)/\Below w.heap.size w w':=Any.strings_ToUpper_ascii y17 y2 s w hs hascii
def y4:Ren:=⟨fun|29=>208|n=>n,fun|22=>23|25=>256|54=>67|n=>n,fun|1=>2|n=>n⟩
def lays7x29:Lays7.n29 prog y4:=sz
def y13:Ren:=⟨fun|6=>245|15=>298|14=>297|28=>337|29=>338|20=>329|21=>330|22=>331|23=>332|24=>333|25=>334|26=>335|27=>336|46=>356|47=>357|48=>358|49=>359|50=>360|57=>368|n=>n,fun|22=>122|24=>87|25=>265|39=>256|53=>60|55=>23|46=>374|45=>373|50=>188|66=>391|70=>395|76=>405|77=>406|n=>n,fun|n=>n⟩
def sortL:SlLaysF0.n6 prog y13:={mixed:=by kernel_rfl,f6:=⟨f245.name,by decide,sf func245⟩,f14:=⟨f297.name,by decide,sf func297⟩,f15:=sf func298,f20:=⟨f329.name,by decide,sf func329⟩,f21:=⟨f330.name,by decide,sf func330⟩,f22:=⟨f331.name,by decide,sf func331⟩,f23:=⟨f332.name,by decide,sf func332⟩,f24:=⟨f333.name,by decide,sf func333⟩,f25:=⟨f334.name,by decide,sf func334⟩,f26:=⟨f335.name,by decide,sf func335⟩,f27:=⟨f336.name,by decide,sf func336⟩,f28:=sf func337,f29:=sf func338,f46:=⟨f356.name,by decide,sf func356⟩,f47:=sf func357,f48:=sf func358,f49:=⟨f359.name,by decide,sf func359⟩,f50:=⟨f360.name,by decide,sf func360⟩,f57:=⟨f368.name,by decide,sf func368⟩,t0:=underlying0,a0:=isAgg0,z0:=sizeOf0,v0:=zeroValue0,t3:=underlying3,a3:=isAgg3,z3:=sizeOf3,v3:=zeroValue3,t4:=underlying4,a4:=isAgg4,z4:=sizeOf4,v4:=zeroValue4,t5:=underlying5,a5:=isAgg5,z5:=sizeOf5,v5:=zeroValue5,t9:=underlying9,a9:=isAgg9,z9:=sizeOf9,v9:=zeroValue9,t22:=underlying122,a22:=isAgg122,z22:=sizeOf122,v22:=zeroValue122,t25:=underlying265,a25:=isAgg265,z25:=sizeOf265,v25:=zeroValue265,t39:=underlying256,a39:=isAgg256,z39:=sizeOf256,v39:=zeroValue256,t45:=underlying373,a45:=isAgg373,z45:=sizeOf373,v45:=zeroValue373,t46:=underlying374,a46:=isAgg374,z46:=sizeOf374,v46:=zeroValue374,t50:=underlying188,a50:=isAgg188,z50:=sizeOf188,v50:=zeroValue188,t53:=underlying60,a53:=isAgg60,z53:=sizeOf60,v53:=zeroValue60,t55:=underlying23,a55:=isAgg23,z55:=sizeOf23,v55:=zeroValue23,t66:=underlying391,a66:=isAgg391,z66:=sizeOf391,v66:=zeroValue391,t70:=underlying395,a70:=isAgg395,z70:=sizeOf395,v70:=zeroValue395,t76:=underlying405,a76:=isAgg405,z76:=sizeOf405,v76:=zeroValue405,t77:=underlying406,a77:=isAgg406,z77:=sizeOf406,v77:=zeroValue406}
def y5:Ren:=⟨fun|187=>226|255=>272|n=>n,fun|37=>145|n=>n,fun|n=>n⟩
def lays187x:Lays.n187 prog y5:=sz
def y11:Ren:=⟨fun|145=>228|220=>275|219=>310|217=>249|225=>347|224=>348|267=>349|266=>300|314=>366|n=>n,fun|59=>148|46=>256|146=>403|51=>60|n=>n,fun|1=>4|n=>n⟩
def y18:Lays.n145 prog y11:=sz
open Go.RowKit Go.Lib in
def strings_Cut(s sep:ByteArray)(m:Int)(w:World)(hs:s.size<4294967281)(hm:w.cell? ⟨4,0,none⟩=some (.int .i64 m)):Calls prog 228 #[.string s,.string sep] w fun e w'=>e=.returned (.tuple #[.string ⟨(Lib.cut s.data.toList sep.data.toList).1.toArray⟩,.string ⟨(Lib.cut s.data.toList sep.data.toList).2.1.toArray⟩,.bool (Lib.cut s.data.toList sep.data.toList).2.2])/\∃ n,w'=w.drewN n:=Any.strings_Cut y18 s sep m w hs hm
def y12:Ren:=⟨fun|146=>321|221=>214|268=>259|138=>260|143=>261|195=>308|197=>274|218=>309|219=>310|260=>318|217=>249|225=>347|224=>348|267=>349|266=>300|314=>366|n=>n,fun|31=>43|105=>322|46=>256|119=>384|139=>387|138=>386|146=>403|51=>60|n=>n,fun|1=>4|3=>6|4=>7|n=>n⟩
def y19:Lays.n146 prog y12:=sz
open Go.RowKit Go.Lib in
def strings_Split(s sep:ByteArray)(m:Int)(w:World)(hs:s.size<4294967281)(hm:w.cell? ⟨4,0,none⟩=some (.int .i64 m))(h1:1<=sep.size):Calls prog 321 #[.string s,.string sep] w fun e w'=>e=.returned (.slice (some ⟨w.heap.size,0,none⟩) (Lib.countB s sep + 1) (Lib.countB s sep + 1))/\w'=w.alloc (.cells ((Lib.splitB sep 0 (Lib.countB s sep) s).map Value.string).toArray 9):=Any.strings_Split y19 (by kernel_rfl) s sep m w hs hm h1
