import Derived.Test.YtnfakamfmkhlbabGreatDoorCards
import Derived.Test.YtnfakamfmkhlbabGreatDoorTie
import Derived.Test.YtnfakamfmkhlbabGreatDoorC8
import Derived.Deep.Slices
import Derived.WideKeyArgs
set_option maxRecDepth 100000
set_option maxHeartbeats 4000000
set_option linter.all false
open Go.Value renaming int->I,string->Zb,slice->Zq
open Go.IntKind renaming i64->L,u8->Zg,u64->Zh
open Go.Ending renaming returned->Zd
open Option renaming some->S,none->N
open Bool renaming true->Zk,false->Zl
open Decidable renaming decide->Zm
namespace Go.Proofs.YtnfakamfmkhlbabGreatDoor.all
open Go.ChangeShapes Go.WideShapes Go.ChangeAt Go.RowKit Go.Proofs.YtnfakamfmkhlbabGreatDoor.C Go.Proofs.Tryz
open Rows renaming allUptoRow->aU
variable {H:Type}{enc:TypeId × Value->H}{W:World}{base:Nat}{cs:List Value}{p:List MemPlace}{P':Bool}
abbrev lM(W:World):=laidMet prog aU.laid W
abbrev t2(a b:Int):DataW Unit:=.agg [.lit (.int L a),.lit (.int L b)]
abbrev t3(a b c:Int):DataW Unit:=.agg [.lit (.int L a),.lit (.int Zh b),.lit (.int Zh c)]
abbrev t4(a b c d:Int):DataW Unit:=.agg [.lit (.int L a),.lit (.int Zg b),.lit (.int L c),.lit (.int Zg d)]
abbrev T1:List (DataW Unit):=[t2 0 1,t2 1 1,t2 1 0,t2 1 (-1),t2 0 (-1),t2 (-1) (-1),t2 (-1) 0,t2 (-1) 1,t2 1 2,t2 2 1,t2 2 (-1),t2 1 (-2),t2 (-1) (-2),t2 (-2) (-1),t2 (-2) 1,t2 (-1) 2]
abbrev T2:List (DataW Unit):=[t4 4 75 7 82,t4 4 75 0 82,t4 60 107 63 114,t4 60 107 56 114]
abbrev T3:List (DataW Unit):=[t3 6 96 112,t3 2 14 28,t3 62 6917529027641081856 8070450532247928832,t3 58 1008806316530991104 2017612633061982208]
def own:ownKnob prog.godebug=N:=WR
def nTz:prog.globalNamed "math/bits.deBruijn64tab"=S 2:=WR
def sN:prog.globalNamed "rook/position.homes"=S 1:=WR
def Sz:(prog.globals[2]?).map (·.type)=S 67:=WR
def AU:(prog.globals[1]?).map (·.type)=S 269:=WR
def c8:prog.cellsOf 5=1:=WR
def cA:prog.cellsOf 67=64:=WR
def dTz:(Rows.laid_math_bits_deBruijn64tab:DataW Unit)=Lib.tabData Zg (Lib.deBruijn64tab.map Int.ofNat):=WR
def DZ{n:String}{k:IntKind}{h:List Int}{g:Nat}{t e:TypeId}{m:Nat}(u:Lib.VarReads prog W n (Lib.tabData k h))(r:prog.globalNamed n=S g)(d:(prog.globals[g]?).map (·.type)=S t)(v:prog.underlying t=S (.array m e))(q:prog.underlying e=S (.int k))(a:prog.cellsOf e=1)(b:prog.cellsOf t=m):Lib.TabIs prog W n k h:=by obtain⟨w,x,cs,f,p,i,j,l,o⟩:=u;obtain rfl:=qP (r.symm.trans i);obtain rfl:=qP (d.symm.trans j);unfold Lib.TabIs;rw[l,<-Lib.cells_of_tab v q a b o]
def met(h:laidMetH prog aU.laid W):laidMet prog aU.laid W:=by rwa[MakeChecks.laidMetH_plain _ _ _ WR]at h
def Ee(h:lM W):jF W:=by
 have d:=DZ (dTz▸Lib.laidMet.reads h (.tail _ (.head _))) nTz Sz underlying67 underlying5 c8 cA;have a:kL W:=λj b=>by have:=d.cell nTz j VE;rw[this];simp[List.getD_eq_getElem?_getD,List.getElem?_map,List.getElem?_eq_getElem b]
 exact⟨a,World.block_lt_of_cell? W _ (a 0 WW)⟩
def c3:prog.cellsOf 3=1:=WR
def cH:prog.cellsOf 268=4:=WR
def CC{r:Nat->Bool}{a:Nat}{f:List (DataW Unit×List MemPlace)}{b:List (DataW Unit)}{t:TypeId}{k:IntKind}{z:Int}{i o:Nat}(p:b=f.map (·.1))(d:b[i]?=S (.lit (.int k z)))(m:prog.underlying t=S (.int k))(l:prog.cellsOf t=1)(h:DataW.trod (λ_=>()) prog W base r P' a t ((cs.drop o).take (prog.cellsOf t))=f[i]?):cs[o]?=S (.int k z):=by rw[p,List.getElem?_map]at d;obtain⟨y,q,e⟩:=Option.map_eq_some_iff.1 d;rw[q,l]at h;obtain⟨n,g,j,_⟩:=DataW.trod_int m h;rw[j]at e;simp only[DataW.lit.injEq,Lit.int.injEq,true_and]at e;subst e;have:=congrArg (·[0]?) g;simpa[List.getElem?_take,List.getElem?_drop]using this
def fP{r:Nat->Bool}{g:Nat}{a b c d:Int}(h:DataW.trod (λ_=>()) prog W base r P' g 268 cs=S (t4 a b c d,p)):cs=[.int L a,.int Zg b,.int L c,.int Zg d]:=by
 obtain⟨u,n,rfl,q,o,_,e⟩:=DataW.trod_struct underlying268 h;rw[cH]at o;have f:[.lit (.int L a),.lit (.int Zg b),.lit (.int L c),.lit (.int Zg d)]=u.map (·.1):=by have:=congrArg Prod.fst q;simpa using this
 have j:=CC f (i:=0) R underlying3 c3 (e 0 _ R);have k:=CC f (i:=1) R underlying5 c8 (e 1 _ R);have l:=CC f (i:=2) R underlying3 c3 (e 2 _ R);have m:=CC f (i:=3) R underlying5 c8 (e 3 _ R);apply List.ext_getElem?;intro i;by_cases v:i<4
 .have:i=0\/i=1\/i=2\/i=3:=O;obtain rfl|rfl|rfl|rfl:=this
  .exact j
  .exact k
  .exact l
  .exact m
 .rw[List.getElem?_eq_none O,List.getElem?_eq_none WX]
def mz(h:lM W):vJ W:=by
 obtain⟨Q,a1,cs,m,p,H,t,J,K⟩:=Lib.laidMet.reads h (.tail _ (.tail _ (.tail _ (.tail _ (.tail _ (.tail _ (.head _)))))));obtain rfl:=qP (sN.symm.trans H);obtain rfl:=qP (AU.symm.trans t);have G:∀i,i<4->∃f d q,T2[i]?=S d/\DataW.trod (λ_=>()) prog W 0 (λ_=>Zk) Zl f 268 ((cs.toList.drop (i*4)).take 4)=S (d,q):=λi l=>by have:=Lib.array_elem underlying269 K i l;rwa[cH]at this
 have k:∀i,i<4->∀a b c d:Int,T2[i]?=S (t4 a b c d)->cs.toList[i*4]?=S (.int L a)/\cs.toList[i*4+1]?=S (.int Zg b)/\cs.toList[i*4+2]?=S (.int L c)/\cs.toList[i*4+3]?=S (.int Zg d):=λi l a b c d T=>by
  obtain⟨f,y,q,V,s⟩:=G i l;obtain rfl:=qP (V.symm.trans T);have P:=fP s;have at':∀r,r<4->cs.toList[i*4+r]?=([.int L a,.int Zg b,.int L c,.int Zg d]:List Value)[r]?:=λr M=>by rw[<-P,List.getElem?_take,qI M,List.getElem?_drop]
  exact⟨at' 0 O,at' 1 O,at' 2 O,at' 3 O⟩
 obtain⟨n,o,u,w⟩:=k 0 O _ _ _ _ R;obtain⟨x,z,A,B⟩:=k 1 O _ _ _ _ R;obtain⟨c0,c1,c2,c3⟩:=k 2 O _ _ _ _ R;obtain⟨C,D,E,F⟩:=k 3 O _ _ _ _ R;have g:∀(j:Nat)(v:Value),vp[j]?=S v->W.cell? ⟨1,j,N⟩=S v:=λj v e=>by rw[World.var?_cell sN J j,<-qO];have a0:j<16:=(List.getElem?_eq_some_iff.1 e).1;have:j=0\/j=1\/j=2\/j=3\/j=4\/j=5\/j=6\/j=7\/j=8\/j=9\/j=10\/j=11\/j=12\/j=13\/j=14\/j=15:=O;rcases this with rfl|rfl|rfl|rfl|rfl|rfl|rfl|rfl|rfl|rfl|rfl|rfl|rfl|rfl|rfl|rfl<;>(cases e;assumption)
 exact⟨λj v e=>by rw[Nat.zero_add];exact g j v e,World.block_lt_of_cell? W _ (g 0 _ R)⟩
def HB:prog.cellsOf 195=1:=WR
def GG:prog.globalNamed "rook/letters.steps"=S 0:=WR
def Fb:(prog.globals[0]?).map (·.type)=S 222:=WR
def DL:prog.cellsOf 221=2:=WR
def nk{m:Nat->Bool}{e:Nat}{a b:Int}(h:DataW.trod (λ_=>()) prog W base m P' e 221 cs=S (t2 a b,p)):cs=[.int L a,.int L b]:=by
 obtain⟨o,n,rfl,l,k,_,d⟩:=DataW.trod_struct underlying221 h;rw[DL]at k;have f:[.lit (.int L a),.lit (.int L b)]=o.map (·.1):=by have:=congrArg Prod.fst l;simpa using this
 have g:=CC f (i:=0) R underlying3 c3 (d 0 _ R);have j:=CC f (i:=1) R underlying3 c3 (d 1 _ R);apply List.ext_getElem?;intro i;by_cases q:i<2
 .have:i=0\/i=1:=O;obtain rfl|rfl:=this
  .exact g
  .exact j
 .rw[List.getElem?_eq_none O,List.getElem?_eq_none WX]
def B6(h:lM W):vT W:=by
 obtain⟨g',t',cs,a0,p,h1,h2,h3,h4⟩:=Lib.laidMet.reads h (.tail _ (.tail _ (.tail _ (.tail _ (.head _)))));obtain rfl:=qP (GG.symm.trans h1);obtain rfl:=qP (Fb.symm.trans h2);have el:∀i,i<16->∃g d q,T1[i]?=S d/\DataW.trod (λ_=>()) prog W 0 (λ_=>Zk) Zl g 221 ((cs.toList.drop (i*2)).take 2)=S (d,q):=λi hi=>by have:=Lib.array_elem underlying222 h4 i hi;rwa[DL]at this
 have f:∀i,i<16->∀a b:Int,T1[i]?=S (t2 a b)->cs.toList[i*2+0]?=S (.int L a)/\cs.toList[i*2+1]?=S (.int L b):=λi hi a b he=>by
  obtain⟨g,y,q,k1,k2⟩:=el i hi;obtain rfl:=qP (k1.symm.trans he);have k3:=nk k2;have at':∀r,r<2->cs.toList[i*2+r]?=([.int L a,.int L b]:List Value)[r]?:=λr hr=>by rw[<-k3,List.getElem?_take,qI hr,List.getElem?_drop]
  exact⟨at' 0 O,at' 1 O⟩
 obtain⟨E,F⟩:=f 0 O _ _ R;obtain⟨G,H⟩:=f 1 O _ _ R;obtain⟨a2,J⟩:=f 2 O _ _ R;obtain⟨K,a3⟩:=f 3 O _ _ R;obtain⟨M,a5⟩:=f 4 O _ _ R;obtain⟨c,P⟩:=f 5 O _ _ R;obtain⟨Q,s⟩:=f 6 O _ _ R;obtain⟨a4,T⟩:=f 7 O _ _ R;obtain⟨V,t⟩:=f 8 O _ _ R;obtain⟨a1,a6⟩:=f 9 O _ _ R;obtain⟨l,m⟩:=f 10 O _ _ R;obtain⟨n,o⟩:=f 11 O _ _ R;obtain⟨u,w⟩:=f 12 O _ _ R;obtain⟨x,z⟩:=f 13 O _ _ R;obtain⟨A,B⟩:=f 14 O _ _ R;obtain⟨C,D⟩:=f 15 O _ _ R;have k:∀(j:Nat)(v:Value),jO[j]?=S v->W.cell? ⟨0,j,N⟩=S v:=λj v e=>by rw[World.var?_cell GG h3 j,<-qO];have hj:j<32:=(List.getElem?_eq_some_iff.1 e).1;have:j=0\/j=1\/j=2\/j=3\/j=4\/j=5\/j=6\/j=7\/j=8\/j=9\/j=10\/j=11\/j=12\/j=13\/j=14\/j=15\/j=16\/j=17\/j=18\/j=19\/j=20\/j=21\/j=22\/j=23\/j=24\/j=25\/j=26\/j=27\/j=28\/j=29\/j=30\/j=31:=O;rcases this with rfl|rfl|rfl|rfl|rfl|rfl|rfl|rfl|rfl|rfl|rfl|rfl|rfl|rfl|rfl|rfl|rfl|rfl|rfl|rfl|rfl|rfl|rfl|rfl|rfl|rfl|rfl|rfl|rfl|rfl|rfl|rfl<;>(cases e;assumption)
 exact⟨λj v e=>by rw[Nat.zero_add];exact k j v e,World.block_lt_of_cell? W _ (k 0 _ R)⟩
def GH:prog.globalNamed "rook/sets.castlings"=S 3:=WR
def Fc:(prog.globals[3]?).map (·.type)=S 315:=WR
def DM:prog.cellsOf 314=3:=WR
def ns{o:Nat->Bool}{f:Nat}{a b c:Int}(h:DataW.trod (λ_=>()) prog W base o P' f 314 cs=S (t3 a b c,p)):cs=[.int L a,.int Zh b,.int Zh c]:=by
 obtain⟨q,n,rfl,m,l,_,d⟩:=DataW.trod_struct underlying314 h;rw[DM]at l;have e:[.lit (.int L a),.lit (.int Zh b),.lit (.int Zh c)]=q.map (·.1):=by have:=congrArg Prod.fst m;simpa using this
 have g:=CC e (i:=0) R underlying3 c3 (d 0 _ R);have j:=CC e (i:=1) R underlying195 HB (d 1 _ R);have k:=CC e (i:=2) R underlying195 HB (d 2 _ R);apply List.ext_getElem?;intro i;by_cases r:i<3
 .have:i=0\/i=1\/i=2:=O;obtain rfl|rfl|rfl:=this
  .exact g
  .exact j
  .exact k
 .rw[List.getElem?_eq_none O,List.getElem?_eq_none WX]
def B8(h:lM W):jQ W:=by
 obtain⟨Q,a1,cs,F,p,H,t,J,K⟩:=Lib.laidMet.reads h (.tail _ (.tail _ (.tail _ (.tail _ (.tail _ (.head _))))));obtain rfl:=qP (GH.symm.trans H);obtain rfl:=qP (Fc.symm.trans t);have G:∀i,i<4->∃f d q,T3[i]?=S d/\DataW.trod (λ_=>()) prog W 0 (λ_=>Zk) Zl f 314 ((cs.toList.drop (i*3)).take 3)=S (d,q):=λi E=>by have:=Lib.array_elem underlying315 K i E;rwa[DM]at this
 have D:∀i,i<4->∀a b c:Int,T3[i]?=S (t3 a b c)->cs.toList[i*3+0]?=S (.int L a)/\cs.toList[i*3+1]?=S (.int Zh b)/\cs.toList[i*3+2]?=S (.int Zh c):=λi E a b c T=>by
  obtain⟨f,y,q,V,s⟩:=G i E;obtain rfl:=qP (V.symm.trans T);have P:=ns s;have at':∀r,r<3->cs.toList[i*3+r]?=([.int L a,.int Zh b,.int Zh c]:List Value)[r]?:=λr M=>by rw[<-P,List.getElem?_take,qI M,List.getElem?_drop]
  exact⟨at' 0 O,at' 1 O,at' 2 O⟩
 obtain⟨k,l,m⟩:=D 0 O _ _ _ R;obtain⟨n,o,u⟩:=D 1 O _ _ _ R;obtain⟨w,x,z⟩:=D 2 O _ _ _ R;obtain⟨A,B,C⟩:=D 3 O _ _ _ R;have g:∀(j:Nat)(v:Value),pY[j]?=S v->W.cell? ⟨3,j,N⟩=S v:=λj v e=>by rw[World.var?_cell GH J j,<-qO];have a0:j<12:=(List.getElem?_eq_some_iff.1 e).1;have:j=0\/j=1\/j=2\/j=3\/j=4\/j=5\/j=6\/j=7\/j=8\/j=9\/j=10\/j=11:=O;rcases this with rfl|rfl|rfl|rfl|rfl|rfl|rfl|rfl|rfl|rfl|rfl|rfl<;>(cases e;assumption)
 exact⟨λj v e=>by rw[Nat.zero_add];exact g j v e,World.block_lt_of_cell? W _ (g 0 _ R)⟩
def Bu(h:W.ShapedOpen prog):∃m,W.cell? ⟨4,0,N⟩=S (.int L m):=Go.Proofs.cell_of_shapedOpen_int (zero:=#[.int L 0]) (t:=3) h (q8 WR) WR R WR WR underlying3
def c64:prog.cellsOf 23=1:=WR
def Sl:prog.cellsOf 388=20:=WR
def TC:prog.globalNamed "internal/strconv.uint64pow10"=S 8:=WR
def SF:(prog.globals[8]?).map (·.type)=S 388:=WR
def TY:(Rows.laid_internal_strconv_uint64pow10:DataW Unit)=Lib.tabData Zh Lib.pow10Tab:=WR
def QO(h:lM W):HG W:=DZ (TY▸Lib.laidMet.reads h (.tail _ (.tail _ (.head _)))) TC SF underlying388 underlying23 c64 Sl
def nOw:prog.globalNamed "rook/lab.overWords"=S 5:=WR
def S6:(prog.globals[5]?).map (·.type)=S 238:=WR
def cSt:prog.cellsOf 9=1:=WR
def Rd(h:lM W):Qf W:=by
 obtain⟨x,y,cs,f,p,m,n,o,r⟩:=Lib.laidMet.reads h (.tail _ (.tail _ (.tail _ (.tail _ (.tail _ (.tail _ (.tail _ (.head _))))))));obtain rfl:=qP (nOw.symm.trans m);obtain rfl:=qP (S6.symm.trans n);have b:∀i,i<4->∀l,([.lit (.string [111,112,101,110]),.lit (.string [109,97,116,101]),.lit (.string [115,116,97,108,101,109,97,116,101]),.lit (.string [100,101,97,100])]:List (DataW Unit))[i]?=S (.lit (.string l))->W.cell? ⟨5,i,N⟩=S (.string (xJ l)):=λi v l u=>by
  obtain⟨e,d,q,w,g⟩:=Lib.array_elem underlying238 r i v;obtain rfl:=qP (w.symm.trans u);rw[cSt]at g;obtain⟨sb,j,a,_⟩:=DataW.trod_string underlying9 g;have k:l=sb.data.toList:=by injection a with a _;injection a with a;injection a
  rw[World.var?_cell nOw o i,<-qO,k];have:=congrArg (·[0]?) j;simpa[List.getElem?_take,List.getElem?_drop,xJ]using this
 exact⟨b 0 O _ R,b 1 O _ R,b 2 O _ R,b 3 O _ R⟩
def Bv(h:lM W)(b:W.ShapedOpen prog):∃m,Ct m W:=by obtain⟨m,a⟩:=Bu b;exact⟨m,a,World.block_lt_of_cell? W _ a,Ee h,mz h⟩
def tA(h:lM W):uV W:=⟨B8 h,B6 h⟩
def de:laidOutB prog=Zk:=WR
def eX:prog.readableRec 51=Zk:=WR
def rK:51<prog.types.size:=q8 WR
def cO:prog.cellsOf 113=6:=WR
def b1{H:Type}(d:DataW H):1<=Rows.uptoBulk d:=by unfold Rows.uptoBulk;split<;>omega
theorem b2{H:Type}{d:DataW H}:∀{l:List (DataW H)},d∈l->Rows.uptoBulk d<=Rows.uptoBulkAll l
 | [],h=>absurd h WU
 | a::r,h=>by
  rw[Rows.uptoBulkAll];obtain rfl|h:=List.mem_cons.1 h
  .omega
  .have:=b2 h;omega
theorem b3{H:Type}:∀l:List (DataW H),l.length<=Rows.uptoBulkAll l
 | []=>WU
 | a::r=>by rw[Rows.uptoBulkAll,List.length_cons];have:=b3 r;have:=b1 a;omega
def o1{o:Nat}{v:Value}(h:(cs.drop o).take 1=[v]):cs[o]?=S v:=by have:=congrArg (·[0]?) h;simpa[List.getElem?_take,List.getElem?_drop]using this
def oi{o:Nat}{v:Value}(h:(cs.drop o).take (prog.cellsOf 3)=[v]):cs[o]?=S v:=by rw[c3]at h;exact o1 h
def os{o:Nat}{v:Value}(h:(cs.drop o).take (prog.cellsOf 9)=[v]):cs[o]?=S v:=by rw[cSt]at h;exact o1 h
def oc{r:Nat->Bool}{f:Nat}{d:DataW H}(h:DataW.trod enc prog W base r P' f 113 cs=S (d,p)):∃(kd ca nn wy:Int)(T s:ByteArray),cs=#[I L kd,I L ca,Zb T,Zb s,I L nn,I L wy].toList/\-9223372036854775808<=ca/\ca<=9223372036854775807/\T.size<=Rows.uptoBulk d/\s.size<=Rows.uptoBulk d:=by
 obtain⟨xs,n,rfl,hx,hl,xl,e⟩:=DataW.trod_struct underlying113 h;rw[cO]at hl;have xl:xs.length=6:=xl;have el:∀i,i<6->∃y,xs[i]?=S y:=λi hi=>⟨xs[i],List.getElem?_eq_getElem (by omega)⟩
 obtain⟨y0,z0⟩:=el 0 O;obtain⟨y1,z1⟩:=el 1 O;obtain⟨y2,z2⟩:=el 2 O;obtain⟨y3,z3⟩:=el 3 O;obtain⟨y4,z4⟩:=el 4 O;obtain⟨y5,z5⟩:=el 5 O;obtain⟨a0,e0,_,_⟩:=DataW.trod_int underlying3 ((e 0 _ R).trans z0);obtain⟨a1,e1,_,w1⟩:=DataW.trod_int underlying3 ((e 1 _ R).trans z1);obtain⟨a2,e2,b2',_⟩:=DataW.trod_string underlying9 ((e 2 _ R).trans z2);obtain⟨a3,e3,b3',_⟩:=DataW.trod_string underlying9 ((e 3 _ R).trans z3);obtain⟨a4,e4,_,_⟩:=DataW.trod_int underlying3 ((e 4 _ R).trans z4);obtain⟨a5,e5,_,_⟩:=DataW.trod_int underlying3 ((e 5 _ R).trans z5);have w2:(Zm (IntKind.i64.min<=a1) && Zm (a1<=IntKind.i64.max))=Zk:=w1;rw[Bool.and_eq_true,decide_eq_true_eq,decide_eq_true_eq]at w2;have hd:d=.agg (xs.map (·.1)):=congrArg Prod.fst hx;have k:∀y∈xs,∀a:ByteArray,y.1=.lit (.string a.data.toList)->a.size<=Rows.uptoBulk d:=λy i a j=>by
  have h1:=b2 (List.mem_map.2 ⟨y,i,rfl⟩:y.1∈xs.map (·.1));rw[j]at h1;have h2:a.data.toList.length=a.size:=Array.length_toList;rw[hd];simp only[Rows.uptoBulk]at h1|-;omega
 refine⟨a0,a1,a4,a5,a2,a3,?_,w2.1,w2.2,k _ (List.mem_of_getElem? z2) _ (congrArg (·.1) b2'),k _ (List.mem_of_getElem? z3) _ (congrArg (·.1) b3')⟩;apply List.ext_getElem?;intro i;by_cases hi:i<6
 .obtain rfl|rfl|rfl|rfl|rfl|rfl:i=0\/i=1\/i=2\/i=3\/i=4\/i=5:=O
  .exact oi (o:=0) e0
  .exact oi (o:=1) e1
  .exact os (o:=2) e2
  .exact os (o:=3) e3
  .exact oi (o:=4) e4
  .exact oi (o:=5) e5
 .rw[List.getElem?_eq_none O,List.getElem?_eq_none WX]
def sI{p:Option Addr}{n c:Nat}{d:DataW H}{q:List MemPlace}(h:DataW.Trod enc prog W 0 (λ_=>Zk) Zk 51 (Zq p n c) d q)(hk:Rows.uptoBulk d<=1048576):n<=4294967295/\qbj W p n:=by
 obtain⟨f,hf⟩:=h;obtain⟨hc,hx⟩|⟨a,l,c',m,k,D,Pl,hc,_,hl,hm,hmm,hx,e⟩:=Go.Deep.open_slice underlying51 hf
 .have i:Zq p n c=Zq N 0 0:=by simpa[Value.cells]using hc
  injection i with _ i _;subst i;exact⟨O,λi j=>absurd j WU⟩
 .have i:Zq p n c=Zq (S a) l c':=by simpa[Value.cells]using hc
  injection i with i1 i2 i3;subst i1 i2 i3;have hd:d=.slice ((List.range n).map D) ((List.range (m-n)).map λj=>D (n+j)):=congrArg Prod.fst hx;rw[hd]at hk;simp only[Rows.uptoBulk]at hk;have hn:=b3 ((List.range n).map D);rw[List.length_map,List.length_range]at hn;have hm:n<=m:=by rw[hmm];split<;>omega
  refine⟨O,λi hi=>?_⟩;obtain⟨cs,h1,h2⟩:=e i O;rw[cO]at h1;obtain⟨kd,ca,nn,wy,T,s,rfl,q1,q2,q3,q4⟩:=oc h2;obtain⟨_,_,hc⟩:=World.cells?_some h1;have hD:=b2 (List.mem_map.2 ⟨i,List.mem_range.2 hi,rfl⟩:D i∈(List.range n).map D);obtain⟨_,h5,h6⟩:=e 0 O;rw[cO]at h5;obtain⟨_,_,_,_,_,_,rfl,_⟩:=oc h6;have sp:a.spot=N:=by have h3:=(World.cells?_some h5).2.2 0 O;simpa[Addr.add]using World.cell?_spot h3
  obtain⟨sb,so,spot⟩:=a;have sp:spot=N:=sp;subst sp;refine⟨sb,so,R,kd,ca,nn,wy,T,s,O,O,q1,q2,λr v hv=>?_⟩;have hr:r<6:=by simpa using(Array.getElem?_eq_some_iff.1 hv).1
  have h4:=hc r hr;rw[qO,hv]at h4;have e5:((⟨sb,so,N⟩:Addr).add (i*6)).add r=⟨sb,so+i*6+r,N⟩:=by unfold Addr.add;split<;>split<;>simp_all
  rw[e5]at h4;exact h4
def eZ{W o:World}{v:Value}{q:DataW H}{A:List MemPlace}{a:List MemPlace}(z:DataW.Whole enc prog [51] [] Zl W [v] [q] [] a)(D:a=A++([]))(B:DataW.Trod enc prog W 0 (λ_=>Zk) Zk 51 v q A)(g:Gr W o):Rows.allSpec.post enc prog f7 Zl Zk Zl Zl W #[v] (.bool Zk) o:=by
 have d:=z.lt;have e:f7.params.toList=[51]:=by rw[params7]
 have y:f7.resultTypes=#[4]:=WR;have i:∀n:Nat->Bool,(∀p∈a,n p.block=Zk)->DataW.TrodAll enc prog o 0 n Zk [51] [v] [q] a:=λn j=>by rw[D]at d j|-;exact(trodAll_cons_mk (WideElems.Trod_stays de eX rK B (λx k=>g.same (d x (by simp[k]))) (λx k=>j x (by simp[k]))) trodAll_mk0)
 have m:∀(b:Nat)(n:Nat->Bool)(E:Bool),DataW.TrodAll enc prog o b n E [4] [.bool Zk] [.lit (.bool Zk)] []:=λ_ _ _=>trodAll_cons_mk (shut_bool underlying4 _) trodAll_mk0;have l:∀p∈a,(λb=>Zm (b<W.heap.size)) p.block=Zk:=λp u=>by simpa using d p u
 refine⟨[q],[],a,[],a,[],by rw[e];exact z,?_,?_,R,?_,λh=>Ub⟩
 .rw[y];exact m _ _ _
 .rw[e];exact i _ l
 .exact World.keptBut_mono (λp u=>⟨u,Or.inr (by simpa using u)⟩) (g.frame (·∈a))
def tW(H:Type)(enc:TypeId×Value->H)(W:World)(base:Nat)(args:Array Value)(l y:List (DataW H))(b:List MemPlace)(a:∀(j:Nat) t v,f7.params[j]?=S t->args[j]?=S v->Value.okWide prog W .any base t v)(B:DataW.Whole enc prog f7.params.toList Rows.allSpec.vars Zl W args.toList l y b) (a0:Rows.uptoSmall H (l++y)=Zk) (h:laidMetH prog aU.laid W) (u:W.ShapedOpen prog):Calls prog 7 args W λe x=>∃v,e=Zd v/\Rows.allSpec.post enc prog f7 Zl Zk Zl Zl W args v x:=by
 have d:=B;obtain⟨p,q,n,G,rfl,J,M⟩:=B;have A:DataW.TrodAll enc prog W 0 (λ_=>Zk) Zk f7.params.toList args.toList l p:=n;rw[params7]at A a d;obtain⟨C,Q,E,a3,a4,o,a5,rfl,rfl,z,a1⟩:=trodAll_cons A;obtain⟨rfl,rfl,rfl⟩:=trodAll_nil a1;obtain rfl:args=#[C]:=by cases args;simp_all
 obtain⟨rfl,rfl⟩:=trodVars_none G;obtain⟨P,nl,cp,rfl⟩:=okWide_slice underlying51 (a 0 51 C R R);obtain⟨m,s⟩:=Bv (met h) u;have w:Rows.uptoBulk E<=1048576:=by have g:=q8 a0;simp only[List.cons_append,List.nil_append,Rows.uptoBulkAll]at g;omega
 obtain⟨h1,h2⟩:=sI z w;simp only[List.append_nil]at d;refine(qbh h1 ⟨s,tA (met h),QO (met h),Rd (met h)⟩ h2).mono λe x k=>?_;obtain⟨rfl,K⟩:=k;exact⟨_,R,eZ d WU z K⟩
noncomputable def start(os:Os):World:=World.laidAll prog os aU.laid
noncomputable def lX:Array Value:=#[.slice N 0 0]
def reads(os:Os){H:Type}(enc:TypeId×Value->H):∃a,DataW.whole enc prog ((start os).forCall (λ_ _=>0) ⟨#[],lX,[]⟩).memory f7.params.toList Rows.allSpec.vars Zl lX.toList 8=S ([.nil],[],a):=⟨[],WR⟩
def sf(os:Os):laidMetH prog aU.laid ((start os).forCall (λ_ _=>0) ⟨#[],lX,[]⟩).memory:=by rw[MakeChecks.laidMetH_plain _ _ _ WR];exact laidMet_laidAll _ WR WR
def fD(os:Os)(a:os.Started)(H:Type)(enc:TypeId×Value->H)(F:Stop.Interp):ReturnsInHanded {} Tryz.checked os 7 .any ((Rows.OpenSpec.upto Rows.allSpec).preRow enc prog f7 aU.domain Zl aU.laid) (((Rows.OpenSpec.upto Rows.allSpec).at F).post enc prog f7 Zl Zk Zl Zl):=by
 obtain⟨g,o⟩:=reads os enc;refine returnsInHanded_of_row (C:=Tryz.checked) (s:=Rows.OpenSpec.upto Rows.allSpec) own a WR func7
  (witness_row_atRef (enc:=enc) (C:=Tryz.checked) Zl (start os) lX (World.laidAll_os _ _ _) WR WR WR
   (OpenSpec.preRow_of_cond 8 o WR (λk n=>by cases n;kernel_rfl) WR (sf os))) ?_
 intro W base args i j b e m _ d _ l h _;exact tW H enc W base args i j b e m (d _ R) l h
def su:Tryz.pinned.checked.prog.inPlace 7=aU.inPlace:=WR
def c7:Tryz.pinned.checked.prog.unfollowed 7=aU.unfollowed:=WR
def mG:Tryz.pinned.checked.prog.recurses 7=aU.recurses:=WR
def D5:Tryz.pinned.checked.prog.varsNamed 7=aU.named:=WR
def CM:joinedFacts Tryz.pinned.checked.prog 7 f7 (Rows.OpenSpec.upto Rows.allSpec).bare aU=Zk:=by unfold joinedFacts;rw[su,c7,mG,D5];kernel_rfl
def GE:Tryz.pinned.checked.prog.funcNamed aU.func=S 7:=WR
def G2:f7.isInstance Tryz.pinned.checked.prog aU.origin aU.targs:=q8 WR
def FY:f7.isWrapper Tryz.pinned.checked.prog aU.wrapper aU.mainSum:=by unfold Func.isWrapper;first|(rw[qI WS];kernel_rfl)|(rw[qF WS];exact⟨R,R⟩)
def rF:Rows.AllUptoSaid:=
 OpenClaim.holds_of_cond 7 f7 rfl R R R R R R ⟨R,R,R,R,R⟩ R R R R R GE func7 CM G2 FY
  (λos a H enc _ F=>by rw[OpenClaim.pre_eq_preRow];exact fD os a H enc F)
def plain (f:FuncId) (a:Func) (g:Tryz.pinned.checked.prog.funcNamed "rook/rooklaw.All"=S f) (b:Tryz.pinned.checked.prog.funcs[f]?=S a):Zl=Tryz.pinned.checked.prog.looks []/\∀(j:Nat) t,a.params[j]?=S t->Tryz.pinned.checked.prog.wantsStandIn t=Zl:=by
 obtain rfl:f = 7:=qP ((show prog.funcNamed "rook/rooklaw.All"=S 7 from WR).symm.trans g) |>.symm;obtain rfl:a=f7:=(qP (func7.symm.trans b)).symm;refine⟨WR,λj t e=>?_⟩;rw[params7]at e;have d:t=51:=by simpa using Array.mem_of_getElem? e
 rw[d];exact(show prog.wantsStandIn 51=Zl from WR)
def S9:Tryz.pinned.checked.prog.funcs.any Func.goes=Zl:=WR
def CA{P:Program}(h:P.funcs.any Func.goes=Zl)(f:FuncId):P.goes f=Zl:=by
 unfold Program.goes;rw[h,Bool.and_false,Bool.or_false,List.any_eq_false];intro g _ d;rw[Option.any_eq_true]at d;obtain⟨k,e,i⟩:=d;have b:P.funcs.any Func.goes=Zk:=by rw[Array.any_eq_true];obtain⟨a,j⟩:=qB.1 e;exact⟨g,a,by rw[j];exact i⟩
 rw[h]at b;cases b
def m5{P:Program}(h:P.funcs.any Func.goes=Zl)(c:OpenClaim)(b:c.start=.entering):Zl=c.goesBy P:=by
 have a:P.goesFrom c.func=Zl:=by
  unfold Program.goesFrom;cases P.funcNamed c.func with
  | none=>rfl
  | some f=>exact CA h f
 unfold OpenClaim.goesBy Program.goesAt;rw[a,b];rfl
def hwT:aU.wfByText (Rows.OpenSpec.upto Rows.allSpec)=Zk:=WR
def cardUpto:Rows.AllUptoCardSaid:=Claim7.holds_tied_plain_at .later [] _ _ _ _ rF (λ_ h=>Ub) hwT (λ_ h=>Ub) allUpto_row_tie R ⟨R,R⟩ WR R plain (m5 S9 _ R)
end Go.Proofs.YtnfakamfmkhlbabGreatDoor.all
namespace Go.Proofs.YtnfakamfmkhlbabGreatDoor
theorem allUpto_holds:Rows.AllUptoCardSaid:=all.cardUpto
end Go.Proofs.YtnfakamfmkhlbabGreatDoor
#print axioms Go.Proofs.YtnfakamfmkhlbabGreatDoor.allUpto_holds
