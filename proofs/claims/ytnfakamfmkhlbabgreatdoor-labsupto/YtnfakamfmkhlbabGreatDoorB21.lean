import Derived.Test.YtnfakamfmkhlbabGreatDoorB20
set_option maxRecDepth 100000
set_option maxHeartbeats 4000000
set_option linter.all false
open Go.Value renaming int->I,bool->Za,string->Zb,agg->Zc,tuple->Ze,slice->Zq
open Go.IntKind renaming i64->L,u8->Zg,u64->Zh
open Go.Obj renaming cells->Z
open Go.Ending renaming returned->Zd
open Or renaming inl->Zi,inr->Zj
open Option renaming some->S,none->N
open Bool renaming true->Zk,false->Zl
open Decidable renaming decide->Zm
open Go.RowKit renaming Hid->Y
open Go renaming World->I6,Value->I7
namespace Go.Proofs.YtnfakamfmkhlbabGreatDoor.C
open Go.ChangeShapes Go.WideShapes Go.ChangeAt Go.RowKit Go.Shelf Go.Proofs.YtnfakamfmkhlbabGreatDoor.P Tryz
attribute [local go_sem] qd qe Oper.semAt_some
variable {z:I2}{wh:Bool}{b h m:Int}{PA A M:I0}{fc:I5}{w W a w' w1 V:I6}{f n i k g base d e l j x B Bp:Nat}{v:I7}{u:UInt8}{Q:Nat->Obj->Prop}{rs:I3}{y:I1}
theorem Qn{Z:I2}(h:∀n,64<=n->Z n=0):Z=zB ((List.range 64).map Z):=by
 funext n;unfold zB;by_cases a:n<64
 .rw[YR,YN,List.getElem?_range a];rfl
 .rw[YR,Y9 WX];exact h n O
theorem R7{s:I4}{p:pH}(o:xG s=S p)(d:xP p=Zk){x:Mv}(q:x∈xC (xM p) p.white p.castle p.behind):∃Q,jE (zE (xM p) p.behind x) (!p.white) (kB p.castle x.1 x.2.1 4) (vK (xM p) x.1 x.2.1) (kK (xM p) x.1 x.2.1 p.half) (kj p.white p.full) Q/\xO (zE (xM p) p.behind x)=Zk/\(⟨(afW p x).toArray⟩:I4).size<4294967281/\∀e,zA ⟨(afW p x).toArray⟩ e->e=Zd (Ze #[Zc Q,I L 0]):=by
 obtain⟨r,g,h⟩:=Fp o d;obtain⟨f,t,u⟩:=x;have y:=D8 r g h q;have b:=nH d g h q;have k:=Qn (Z:=zE (xM p) p.behind (f,t,u)) λn m=>(y.far n m).trans (BI o n m);have j:((List.range 64).map (zE (xM p) p.behind (f,t,u))).length=64:=WU;have a:=qkb (zE (xM p) p.behind (f,t,u)) ((List.range 64).map λn=>Value.int Zg ((zE (xM p) p.behind (f,t,u) n).toNat:Int)).toArray WU (λi w=>by simp[w]) (!p.white) (kB p.castle f t 4) (vK (xM p) f t) (kK (xM p) f t p.half) (kj p.white p.full);refine⟨_,a,(qkv b).ok,tN b,λe v=>?_⟩;rw[k]at a b;have l:zA ⟨(oI (zB ((List.range 64).map (zE (xM p) p.behind (f,t,u)))) (!p.white) (kB p.castle f t 4) (vK (xM p) f t) (kK (xM p) f t p.half) (kj p.white p.full)).toArray⟩ e:=by rw[<-k];exact v
 exact A2 j a b l
theorem JQ{B:I1}(m:B.length=64){f:I5}{g:Int}(k:k6 (zB B) wh f b h g=Zk):∃p,xG ⟨(oI (zB B) wh f b h g).toArray⟩=S p/\xP p=Zk/\xM p=zB B/\p.white=wh/\(∀i,i<4->p.castle i=f i)/\p.behind=b:=by
 obtain⟨n,o,q,r⟩:=nG k;have a:B.all wj=Zk:=by rw[qW];intro c e;obtain⟨i,j,rfl⟩:=List.getElem_of_mem e;have:=n i O;unfold zB at this;rwa[YR,Yf j]at this
 obtain⟨l,rfl⟩:=Yt q.1;obtain⟨gn,rfl⟩:=Yt (show 0<=g from O);obtain⟨p,p1,p2,p3,c0,c1,c2,c3,p4,p5,p6⟩:=HS B m a wh f b o l gn O O ⟨(oI (zB B) wh f b l gn).toArray⟩ R;have e:∀i,i<4->p.castle i=f i:=λi j=>by exact Ij
 have d:xP p=Zk:=by unfold xP;rw[ip p2,p3,p4,p5,p6,fx _ _ _ _ _ e];exact k
 exact⟨p,p1,d,ip p2,p3,e,p4⟩
theorem QG(a b:BitVec 64):IntKind.u64.wrap (U a*U b)=U (a*b):=by rw[LH];refine Xn U ?_;unfold U;rw[<-Int.natCast_mul,BitVec.ofInt_natCast];exact BitVec.eq_of_toNat_eq (by rw[BitVec.toNat_ofNat,BitVec.toNat_mul])
theorem Sq(a b:BitVec 64):IntKind.u64.wrap (U a+U b)=U (a+b):=by rw[LH];refine Xn U ?_;unfold U;rw[<-Int.natCast_add,BitVec.ofInt_natCast];exact BitVec.eq_of_toNat_eq (by rw[BitVec.toNat_ofNat,BitVec.toNat_add])
def SQ(x:BitVec 64):BitVec 64 :=
 let a:=(x ^^^ x >>> 30)*13787848793156543929#64
 let b:=(a ^^^ a >>> 27)*10723151780598845931#64
 b ^^^ b >>> 31
def SN(s n:BitVec 64):BitVec 64:=SQ (s+n*11400714819323198485#64)
theorem SJ(x:BitVec 64):U x/(1073741824:Int)=U (x >>> 30):=rE x 30
theorem SK(x:BitVec 64):U x/(134217728:Int)=U (x >>> 27):=rE x 27
theorem SI(x:BitVec 64):U x/(2147483648:Int)=U (x >>> 31):=rE x 31
def RJ(x:Int):Int :=
 let a:=IntKind.u64.wrap (bits .xor Zh x (x/1073741824)*13787848793156543929)
 let b:=IntKind.u64.wrap (bits .xor Zh a (a/134217728)*10723151780598845931)
 bits .xor Zh b (b/2147483648)
theorem mxB:(13787848793156543929:Int)=U 13787848793156543929#64:=WS
theorem mxC:(10723151780598845931:Int)=U 10723151780598845931#64:=WS
theorem mxA:(11400714819323198485:Int)=U 11400714819323198485#64:=WS
theorem SP(x:BitVec 64):RJ (U x)=U (SQ x):=by unfold RJ SQ;simp only;rw[SJ,oF,mxB,QG,SK,oF,mxC,QG,SI,oF]
theorem QI(x:Int)(w:I6):Calls prog 295 #[I Zh x] w λe w'=>e=Zd (I Zh (RJ x))/\w'=w:=by go_enter func295,ntmps295;go_wp2;go_ret;exact⟨xo (a:=RJ x) R,R⟩
def NQ(s n:Int):Int:=RJ (IntKind.u64.wrap (s+IntKind.u64.wrap (n*11400714819323198485)))
theorem RH(s n:BitVec 64):NQ (U s) (U n)=U (SN s n):=by unfold NQ SN;rw[mxA,QG,Sq,SP]
theorem K1(s n:Int)(w:I6):Calls prog 243 #[I Zh s,I Zh n] w λe w'=>e=Zd (I Zh (NQ s n))/\w'=w:=by go_enter func243,ntmps243;go_wp2_with(go_at_call 295;refine Z1 (QI _ _) ?_);go_ret;exact⟨xo (a:=NQ s n) R,R⟩
def gnB(n:Nat):BitVec 64:=SN 0#64 (BitVec.ofNat 64 n)
def kyB(z:Nat->UInt8):Nat->BitVec 64
 | 0=>0#64
 | n+1=>if 0<=jB (z n)then kyB z n ^^^ gnB (64*(jB (z n)).toNat+n+1)else kyB z n
def kyC(fc:Nat->Bool)(k:BitVec 64):Nat->BitVec 64
 | 0=>k
 | n+1=>if fc n then kyC fc k n ^^^ gnB (769+n)else kyC fc k n
def kyW(wh:Bool)(k:BitVec 64):BitVec 64:=if wh then k else k ^^^ gnB 773
def kyF(b:Int)(k:BitVec 64):BitVec 64:=if 0<=b then k ^^^ gnB (774+(b%8).toNat)else k
def K3(z:I2)(wh:Bool)(fc:I5)(b:Int):BitVec 64:=kyF b (kyW wh (kyC fc (kyB z 64) 4))
def nmB(z:I2):List Nat:=(List.range 64).filterMap λn=>if 0<=jB (z n)then S (64*(jB (z n)).toNat+n+1)else N
def nmC(fc:I5):List Nat:=(List.range 4).filterMap λn=>if fc n then S (769+n)else N
def Ha(z:I2)(wh:Bool)(fc:I5)(b:Int):List Nat:=nmB z++nmC fc++(if wh then[]else[773])++(if 0<=b then[774+(b%8).toNat]else[])
def xorN(k:BitVec 64)(l:List Nat):BitVec 64:=l.foldl (λa n=>a ^^^ gnB n) k
theorem mB(k:BitVec 64)(l m:List Nat):xorN k (l++m)=xorN (xorN k l) m:=List.foldl_append
theorem Nk(z:I2)(n:Nat):kyB z (n+1)=if 0<=jB (z n)then kyB z n ^^^ gnB (64*(jB (z n)).toNat+n+1)else kyB z n:=R
theorem Nj(fc:I5)(k:BitVec 64)(n:Nat):kyC fc k (n+1)=if fc n then kyC fc k n ^^^ gnB (769+n)else kyC fc k n:=R
theorem RT(z:Nat->UInt8)(k:Nat):kyB z k=xorN 0#64 ((List.range k).filterMap λn=>if 0<=jB (z n)then S (64*(jB (z n)).toNat+n+1)else N):=by
 induction k with
 | zero=>rfl
 | succ k ih =>
  rw[YI,List.filterMap_append,mB,<-ih,Nk];by_cases h:0<=jB (z k)
  .simp[h,xorN]
  .simp[h,xorN]
theorem RP(fc:Nat->Bool)(x:BitVec 64)(k:Nat):kyC fc x k=xorN x ((List.range k).filterMap λn=>if fc n then S (769+n)else N):=by
 induction k with
 | zero=>rfl
 | succ k ih =>
  rw[YI,List.filterMap_append,mB,<-ih,Nj];cases h:fc k
  .simp[h,xorN]
  .simp[h,xorN]
theorem Nl(z:I2)(wh:Bool)(fc:I5)(b:Int):K3 z wh fc b=xorN 0#64 (Ha z wh fc b):=by unfold K3 Ha;rw[mB,mB,mB];unfold nmB nmC;rw[<-RT,<-RP];unfold kyF kyW;cases wh<;>by_cases h:0<=b<;>simp[h,xorN]
def nmU(z:I2)(k:Nat):List Nat:=(List.range k).filterMap λn=>if 0<=jB (z n)then S (64*(jB (z n)).toNat+n+1)else N
def cmU(fc:I5)(k:Nat):List Nat:=(List.range k).filterMap λn=>if fc n then S (769+n)else N
theorem KX(z:I2)(k:Nat):nmU z (k+1)=nmU z k++(if 0<=jB (z k)then[64*(jB (z k)).toNat+k+1]else[]):=by
 unfold nmU;rw[YI,List.filterMap_append];congr 1;by_cases h:0<=jB (z k)
 .simp[h]
 .simp[h]
theorem Ki(fc:I5)(k:Nat):cmU fc (k+1)=cmU fc k++(if fc k then[769+k]else[]):=by unfold cmU;rw[YI,List.filterMap_append];congr 1;cases h:fc k<;>simp[h]
theorem Lt(z:Nat->UInt8)(k:Nat):∀d,nmU z k <+: nmU z (k+d)
 | 0=>List.prefix_refl _
 | d+1=>by rw[<-Nat.add_assoc,KX];exact(Lt z k d).trans (Xz _ _)
theorem MP(fc:Nat->Bool)(k:Nat):∀d,cmU fc k <+: cmU fc (k+d)
 | 0=>List.prefix_refl _
 | d+1=>by rw[<-Nat.add_assoc,Ki];exact(MP fc k d).trans (Xz _ _)
def whN(wh:Bool):List Nat:=if wh then[]else[773]
def bhN(b:Int):List Nat:=if 0<=b then[774+(b%8).toNat]else[]
theorem H6(z:I2)(wh:Bool)(fc:I5)(b:Int):Ha z wh fc b=nmU z 64++cmU fc 4++whN wh++bhN b:=R
theorem PJ(a:k<=64):nmU z k <+: Ha z wh fc b:=by rw[H6,qS,qS];have:=Lt z k (64-k);rw[show k+(64-k)=64 from O]at this;exact this.trans (Xz _ _)
theorem PI(a:k<=4):nmU z 64++cmU fc k <+: Ha z wh fc b:=by rw[H6,qS,qS];have:=MP fc k (4-k);rw[show k+(4-k)=4 from O]at this;exact(Xq _).2 (this.trans (Xz _ _))
theorem cL4(h:∀i,i<4->W.cell? ⟨Bp,65+i,N⟩=S (Za (fc i))):W.rangeAt Bp 65 [Za (fc 0),Za (fc 1),Za (fc 2),Za (fc 3)]:=by intro j v a;have b:j<4:=(Z5.1 a).1;have:j=0\/j=1\/j=2\/j=3:=O;rcases this with rfl|rfl|rfl|rfl<;>(rw[<-a];exact h _ O)
theorem RZ:(prog.info? 68).map (·.size)=S 4:=WR
theorem SX(c0 c1 c2 c3:Bool)(w:I6):(Instr.index 68 (Zc #[Za c0,Za c1,Za c2,Za c3]) (I L 0)).run prog w=.ok (Za c0) w:=WR
theorem SW(c0 c1 c2 c3:Bool)(w:I6):(Instr.index 68 (Zc #[Za c0,Za c1,Za c2,Za c3]) (I L 1)).run prog w=.ok (Za c1) w:=WR
theorem SV(c0 c1 c2 c3:Bool)(w:I6):(Instr.index 68 (Zc #[Za c0,Za c1,Za c2,Za c3]) (I L 2)).run prog w=.ok (Za c2) w:=WR
theorem SU(c0 c1 c2 c3:Bool)(w:I6):(Instr.index 68 (Zc #[Za c0,Za c1,Za c2,Za c3]) (I L 3)).run prog w=.ok (Za c3) w:=WR
theorem TS(fc:I5)(k:Nat)(a:k<4)(w:I6):(Instr.index 68 (Zc #[Za (fc 0),Za (fc 1),Za (fc 2),Za (fc 3)]) (I L k)).run prog w=.ok (Za (fc k)) w:=by grind[SX,SW,SV,SU]
theorem ST(z:I2)(k:Nat)(a:k<64)(w:I6):(Instr.index 67 (Zc (zL z).toArray) (I L k)).run prog w=.ok (I Zg (z k).toNat) w:=G1 _ k a _ ((gu z).2 k a) w
theorem Kx(a5:xO z=Zk)(a8:-1<=b)(a9:b<=63)(V Bp:Nat)(T:Obj->Prop)(w:I6)(h1:w.cell? ⟨V,0,N⟩=S (ZI Bp))(Z:Ps z wh fc b Bp w) :
 It prog 294 #[ZI V] (λx:Nat=>#[Value.int L (x:Int)]) T (λk=>k=V\/k=Bp) (Ha z wh fc b) w:=by
 intro l B J Jx W f0 hB hJ a7 n h0;have c0:=f0.cell h1 (λ_ _=>Zi R);have y:=Z.fr f0 (λ_ _=>Zj R);clear f0 h1 Z;refine(ZY (n:=1)).1 ?_;refine callsIn_of_wp func294 rfl trivial ?_ R;simp only[ntmps294,Nat.reduceAdd,Nat.reduceSub,Zr];refine Z9.2 ?_;have C:=y.bd.range;go_wp2_with(refine Yo R 67 _ R Bp 0 R (zL z) _ C underlying67 rfl (by rw[ub];exact x7) ?_);refine(Z9 (n:=1)).1 ?_;have a1:=y;gi_loopw [11] (λp wr=>∃k:Nat,k<=64/\p=I L k/\wr.cell? ⟨V,0,N⟩=S (ZI Bp)/\Ps z wh fc b Bp wr/\J (nmU z k) wr) (λp _=>64-(intOf p).toNat)
 case atStart=>exact⟨0,O,R,c0,y,h0⟩
 case round=>
  clear c0 y h0 C a1;obtain⟨k,hk,rfl,c0,y,D⟩:=hrel;have j:=X y;have a:=X D;clear y D;by_cases b3:k<64
  .have P:=ST z k b3;have b4:ew (z k)=Zk:=by have c5:=a5;unfold xO at c5;exact(qW.1 c5) k (qK.2 b3)
   have a3:0<=(k:Int):=O;have c6:(k:Int)<64:=O;have a0:IntKind.i64.wrap ((k:Int)+1)=(((k+1:Nat)):Int):=Vc;have o:Y (nmU z (k+1)=nmU z k++(if 0<=jB (z k)then[64*(jB (z k)).toNat+k+1]else[])):=X (KX z k);by_cases b1:z k=46
   .have a4:(((z k).toNat:Int) != 46)=Zl:=by rw[b1];rfl
    have i:Y (nmU z (k+1)=nmU z k):=X (by rw[o.a,qF (by rw[b1];decide),Yh]);clear o b4 b1;exact OM
   .have a4:(((z k).toNat:Int) != 46)=Zk:=by rw[qU];intro e;apply b1;apply q6.1;have:(z k).toNat=46:=O;rw[this];rfl
    have b5:0<=jB (z k):=by rw[bf,Ym,YF,qG]at b4;exact b4.resolve_left b1
    have Q:=(rn (z k)).2;obtain⟨m,hm⟩:=Yt b5;have i:nmU z (k+1)=nmU z k++[64*m+k+1]:=by rw[o.a,qI b5,hm];rfl
    have a2:Y (∀W:I6,Calls prog 200 #[Zb ⟨#[80,78,66,82,81,75,112,110,98,114,113,107]⟩,I Zg (z k).toNat] W λe w'=>e=Zd (I L m)/\w'=W):=X (λW=>by
     refine(Tryz.strings_IndexByte _ _ _).mono ?_;rintro e w' ⟨rfl,rfl⟩;have hu:((z k).toNat:Int).toNat.toUInt8=z k:=WU
     exact⟨by rw[<-hm];simp only[hu];rfl,R⟩)
    have b0:m<12:=O;have e1:IntKind.i64.wrap (64*(m:Int))=64*(m:Int):=Vc;have e2:IntKind.i64.wrap (64*(m:Int)+k)=64*(m:Int)+k:=Vc;have e3:IntKind.i64.wrap (64*(m:Int)+k+1)=((64*m+k+1:Nat):Int):=Vc;obtain⟨fn,tmps,g,v,hy,hR⟩:=n (nmU z k) (64*m+k+1) wr (by rw[<-i];exact PJ O) a.a;have u:=X i;clear o b4 b1 i b5 Q hm;generalize 64*m+k+1=xx at hy hR e3 u;gi_wp2_with (refine⟨trivial,?_⟩;gi_at_call 200;refine(ZY.2 (a2.a _)).mono ?_;rintro e w' ⟨rfl,rfl⟩);refine hR.mono ?_;rintro e W3 ⟨K,⟨rfl,A⟩|⟨rfl,q⟩⟩
    .exact OO
    .gi_wp2;refine ZS (XS R _ _ _) R ?_;exact⟨⟨_,R⟩,Zj ⟨nmU z k++[xx],by rw[<-u.a];exact PJ O,q⟩⟩
  .have ek:k=64:=O;subst ek;clear b3;have y:=j.a;have C:=cL4 y.c;refine Z9.2 ?_;go_wp2_with(refine Yo R 68 _ R Bp 65 R [Za (fc 0),Za (fc 1),Za (fc 2),Za (fc 3)] _ C underlying68 rfl RZ ?_);refine(Z9 (n:=1)).1 ?_;gi_loopw [33] (λp wr=>∃k:Nat,k<=4/\p=I L k/\wr.cell? ⟨V,0,N⟩=S (ZI Bp)/\Ps z wh fc b Bp wr/\J (nmU z 64++cmU fc k) wr) (λp _=>4-(intOf p).toNat)
   case atStart=>exact⟨0,O,R,c0,y,by rw[show cmU fc 0=[]from R,Yh];exact a.a⟩
   case round=>
    clear c0 y j a C;obtain⟨k,hk,rfl,c0,y,D⟩:=hrel;have j:=X y;have a:=X D;clear y D;by_cases b3:k<4
    .have P:=TS fc k b3;have a3:0<=(k:Int):=O;have c6:(k:Int)<4:=O;have a0:IntKind.i64.wrap ((k:Int)+1)=(((k+1:Nat)):Int):=Vc;have o:Y (cmU fc (k+1)=cmU fc k++(if fc k then[769+k]else[])):=X (Ki fc k);cases b2:fc k
     .have i:Y (nmU z 64++cmU fc (k+1)=nmU z 64++cmU fc k):=X (by rw[o.a,b2];simp);rw[b2]at P;clear o b2;exact OM
     .have i:nmU z 64++cmU fc (k+1)=nmU z 64++cmU fc k++[769+k]:=by rw[o.a,b2];simp
      have e3:IntKind.i64.wrap (769+(k:Int))=((769+k:Nat):Int):=Vc;obtain⟨fn,tmps,g,v,hy,hR⟩:=n (nmU z 64++cmU fc k) (769+k) wr (by rw[<-i];exact PI O) a.a;have u:=X i;rw[b2]at P;clear o b2 i;generalize 769+k=xx at hy hR e3 u;gi_wp2;refine hR.mono ?_;rintro e W3 ⟨K,⟨rfl,A⟩|⟨rfl,q⟩⟩
      .exact OO
      .gi_wp2;refine ZS (XS R _ _ _) R ?_;exact⟨⟨_,R⟩,Zj ⟨nmU z 64++cmU fc k++[xx],by rw[<-u.a];exact PI O,q⟩⟩
    .have ek:k=4:=O;subst ek;clear b3;have G:=X (H6 z wh fc b);obtain⟨r,H⟩:∃l,Y (l=nmU z 64++cmU fc 4):=⟨_,X R⟩;rw[<-H.a]at a G;have cw:=j.a.wh;have cb:=j.a.b;have f:Y (bhN b=if 0<=b then[774+(b%8).toNat]else[]):=X R;cases wh
     .have b6:Ha z Zl fc b=r++[773]++bhN b:=G.a;obtain⟨fn,tmps,g,v,hy,hR⟩:=n r 773 wr (by rw[b6];exact Xz _ _) a.a;have d:=X b6;simp only[show((773:Nat):Int)=773 from R]at hy;clear G H b6;gi_wp2;refine(Z9 (n:=1)).1 ?_;gi_wp2;refine hR.mono ?_;rintro e W3 ⟨K,⟨rfl,A⟩|⟨rfl,q⟩⟩
      .have c3:=K.cell c0 (λ_ _=>Zi (Zi R));have a6:=(j.a.fr K (λ_ _=>Zi (Zj R))).b;by_cases hb:0<=b
       .rw[qI hb]at f;obtain⟨fn,tmps,g,v,b7,F⟩:=n (r++[773]) (774+(b%8).toNat) W3 (by rw[d.a,f.a];exact List.prefix_refl _) A;have e1:IntKind.i64.wrap (774+b%8)=((774+(b%8).toNat:Nat):Int):=Vc;have e2:b.tmod 8=b%8:=Int.tmod_eq_emod_of_nonneg hb;have h:=X (show r++[773]++[774+(b%8).toNat]=Ha z Zl fc b by rw[d.a,f.a]);clear f d;generalize 774+(b%8).toNat=xx at b7 F e1 h;gi_wp2;exact OG
       .rw[qF hb]at f;gi_wp2;go_end0;exact⟨⟨_,R⟩,Zi (by rw[d.a,f.a,Yh];exact A)⟩
      .gi_wp2;refine ZS (XS R _ _ _) R ?_;exact⟨⟨_,R⟩,Zj ⟨r++[773],by rw[d.a];exact Xz _ _,q⟩⟩
     .have d:Y (Ha z Zk fc b=r++bhN b):=X (by rw[G.a];simp[whN]);clear G H;by_cases hb:0<=b
      .rw[qI hb]at f;obtain⟨fn,tmps,g,v,b7,F⟩:=n r (774+(b%8).toNat) wr (by rw[d.a,f.a];exact List.prefix_refl _) a.a;have e1:IntKind.i64.wrap (774+b%8)=((774+(b%8).toNat:Nat):Int):=Vc;have e2:b.tmod 8=b%8:=Int.tmod_eq_emod_of_nonneg hb;have h:=X (show r++[774+(b%8).toNat]=Ha z Zk fc b by rw[d.a,f.a]);clear f d;generalize 774+(b%8).toNat=xx at b7 F e1 h;gi_wp2;refine(Z9 (n:=1)).1 ?_;gi_wp2_with ((with_reducible apply YB);(first|exact trivial|(intro _ _;trivial)));exact OG
      .rw[qF hb]at f;gi_wp2;refine(Z9 (n:=1)).1 ?_;gi_wp2_with ((with_reducible apply YB);(first|exact trivial|(intro _ _;trivial)));go_end0;exact⟨⟨_,R⟩,Zi (by rw[d.a,f.a,Yh];exact a.a)⟩
theorem Sr(n:Nat)(h:n<18446744073709551616):U (BitVec.ofNat 64 n)=(n:Int):=by unfold U;rw[BitVec.toNat_ofNat,Nat.mod_eq_of_lt h]
theorem QD(n:Nat)(h:n<18446744073709551616)(w:I6):Calls prog 243 #[I Zh 0,I Zh n] w λe w'=>e=Zd (I Zh (U (gnB n)))/\w'=w:=by have e:=RH 0#64 (BitVec.ofNat 64 n);rw[Sr n h]at e;have:=K1 (U 0#64) (n:Int) w;rw[e]at this;exact this
theorem QC(h:x∈Ha z wh fc b):x<1000:=by
 rw[H6,Yi,Yi,Yi]at h;obtain((h|h)|h)|h:=h
 .unfold nmU at h;obtain⟨n,a,e⟩:=List.mem_filterMap.1 h;have:=qK.1 a;have:=(rn (z n)).2;split at e
  .injection e with e;omega
  .cases e
 .unfold cmU at h;obtain⟨n,a,e⟩:=List.mem_filterMap.1 h;have:=qK.1 a;split at e
  .injection e with e;omega
  .cases e
 .unfold whN at h;split at h
  .cases h
  .rw[qT.1 h];omega
 .unfold bhN at h;split at h
  .rw[qT.1 h];omega
  .cases h
theorem Kw(Bp:Nat)(w:I6):Calls prog 242 #[ZI Bp] w λe w'=>e=Zd (.func (.func 294) #[] #[ZI w.heap.size])/\w'.heap[w.heap.size]?=S (Z #[ZI Bp] 229)/\Gr w w':=by go_enter func242,ntmps242;go_wp2_with fail;go_ret;exact⟨R,Z7 w _,ZN⟩
theorem L6{g:Int}(r:jE z wh fc b h g PA)(Q:xO z=Zk)(M:-1<=b)(a8:b<=63)(w:I6) :
 ZL 183 #[Zc PA] w (I Zh (U (K3 z wh fc b))):=by
 rw[Nl];obtain⟨H,n⟩:=x6 w (Z PA 70) (Z #[I Zh 0] 23);have u:Gr w ((w.alloc (Z PA 70)).alloc (Z #[I Zh 0] 23)):=ZN.al;have F:((w.alloc (Z PA 70)).alloc (Z #[I Zh 0] 23)).heap.size=w.heap.size+2:=WU;have E:=X (λW=>Kw w.heap.size W);refine(ZY (n:=9)).1 ?_;refine callsIn_of_wp_marks func183 rfl trivial ?_ R;simp only[ntmps183,Nat.reduceAdd,Nat.reduceSub,Zr];refine Z9.2 ?_;go_upto_region 2 with fail;generalize ((w.alloc (Z PA 70)).alloc (Z #[I Zh 0] 23))=w0 at H n u F |-;go_wp2_with(go_at_call 242;refine(E.a _).mono ?_;rintro e G ⟨rfl,v,d⟩);have a7:=(ZE d H);have a9:=(Zz d ((qB.1 n).1)).trans n;have P:=Gr.trans u d;have a6:=ZR d;have a5:=(qB.1 v).1;have B:=Kx Q M a8 w0.heap.size w.heap.size (λ_=>False) G (qi v).1 (Ps.of r a7);rw[F]at v a6 a5 B;clear u d H n E;refine Z9.1 (xj (n:=9) (gf:=294) (lb:=#[ZI (w.heap.size+2)]) R (YC func294 WR R) B (λ_ h=>h.elim) (by rintro k (rfl|rfl)<;>omega) ZP (λ_=>R)
  (λa V=>V.heap[w.heap.size+1]?=S (Z #[I Zh (U (xorN 0#64 a))] 23)/\Gr w V/\G.heap.size<=V.heap.size)
  (λ_ _ _=>False)
  ?sI (λ_ _ _ _ h _=>h) ⟨a9,P,Zy⟩ ?rnd ?done (λ_ _ _ _ _ _ h _=>h.elim))
 case sI=>exact λs A A' h f=>⟨f.same _ _ h.1 (Zi O),Below.trans h.2.1 (f.below (n:=w.heap.size) (ZR h.2.1) (λk o hk=>Zi O)),q7 h.2.2 f.size⟩
 case done=>rintro D V hD ⟨p,y,l⟩ hK;have c2:=(qi p).1;go_wp2_with fail;refine⟨WU,Zi ⟨_,_,R,YU hK,?_⟩⟩;exact⟨_,Wh R _ _ _,R,Below.trans y (XZ (w:=G) (n₀:=w.heap.size) O _ D _ _ hD hK R R)⟩
 case rnd=>
  rintro a3 a x V T hx ⟨p,y,l⟩ hl;have a0:a3<V.heap.size:=hl.elim λr hr=>(qB.1 hr).1;gi_wp2;refine⟨ZP,?_⟩;intro i f2 K a1;clear p y l;obtain⟨p,y,l⟩:=K;have a2:x<1000:=QC (hx.subset WU);have ew:IntKind.u64.wrap ((x:Nat):Int)=(x:Int):=Vh;have m:=X (λW=>QD x O W);have j:Y (U (xorN 0#64 (a++[x]))=bits .xor Zh (U (xorN 0#64 a)) (U (gnB x))):=X (by rw[oF,mB];rfl);generalize gnB x=gv at m j;obtain⟨kn,C⟩:∃q,q=xorN 0#64 (a++[x]):=⟨_,R⟩;rw[<-C]at j;generalize xorN 0#64 a=kv at p j;have d2:i.drew.cell? ⟨w.heap.size+1,0,N⟩=S (I Zh (U kv)):=(qi p).1;have d3:i.drew.frozen? ⟨w.heap.size+1,0,N⟩=Zl:=(qi p).2;have J:Y (Fr (jM G.heap.size (λ_=>False) (λk=>k=w.heap.size+2\/k=w.heap.size)) i (i.setCell ⟨w.heap.size+1,0,N⟩ (I Zh (bits .xor Zh (U kv) (U gv)))).drew/\(i.setCell ⟨w.heap.size+1,0,N⟩ (I Zh (bits .xor Zh (U kv) (U gv)))).drew.heap[w.heap.size+1]?=S (Z #[I Zh (U (xorN 0#64 (a++[x])))] 23)/\Gr w (i.setCell ⟨w.heap.size+1,0,N⟩ (I Zh (bits .xor Zh (U kv) (U gv)))).drew/\G.heap.size<=(i.setCell ⟨w.heap.size+1,0,N⟩ (I Zh (bits .xor Zh (U kv) (U gv)))).drew.heap.size):=X (by
   have a4:Fr (λk _=>k≠w.heap.size+1) i (i.setCell ⟨w.heap.size+1,0,N⟩ (I Zh (bits .xor Zh (U kv) (U gv)))):=ZP.setCell _ (λo _ q=>q R);refine⟨Fr.drew (a4.mono ?_),?_,Gr.drew (Yr y (show w.heap.size<=w.heap.size+1 from O) _),?_⟩
   .rintro k o-(q|q)
    .rcases q with q|q<;>omega
    .have:=q.1;omega
   .show(i.setCell ⟨w.heap.size+1,0,N⟩ (I Zh (bits .xor Zh (U kv) (U gv)))).heap[w.heap.size+1]?=_;have:=jm (v:=I Zh (bits .xor Zh (U kv) (U gv))) p;rw[this,<-C,j.a]
   .exact q7 l a4.size)
  gi_wp2;gi_region_with (refine⟨trivial,?_⟩;gi_at_call 243;refine((ZY.2 (m.a _)).inRound a3).mono ?_;rintro e wc ⟨rfl,rfl⟩);all_goals
   gi_wp2;exact J.a
section
def pathsN:Nat->(Nat->UInt8)->Bool->(Nat->Bool)->Int->Nat
 | 0,_,_,_,_=>1
 | d+1,z,wh,fc,b=>((xC z wh fc b).map λx=>pathsN d (zE z b x) (!wh) (kB fc x.1 x.2.1 4) (vK z x.1 x.2.1)).sum
theorem Qr{l:List Nat}{m:Nat}(d:l.length<=m)(h:∀x∈l,x<=n):l.sum<=m*n:=by
 have b:∀l:List Nat,(∀x∈l,x<=n)->l.sum<=l.length*n:=by
  intro l;induction l with
  | nil=>intro _;simp
  | cons a r ih =>
   intro h;rw[List.sum_cons,Yq,Nat.add_mul,Nat.one_mul];have:=ih (λx e=>h x (Xg _ e));have:=h a (XE ..);omega
 exact q7 (b l h) (XT n d)
theorem NK(d:Nat):∀z wh fc b,pathsN d z wh fc b<=1000000 ^ d:=by
 induction d with
 | zero=>intros;exact Zy
 | succ d ih =>
  intro z wh fc b;rw[Nat.pow_succ,Nat.mul_comm];refine Qr (by rw[YD];exact bu z wh fc b) λx a=>?_;obtain⟨y,_,rfl⟩:=YL.1 a;exact ih _ _ _ _
theorem pb(a:d<=3)(z:I2)(wh:Bool)(fc:I5)(b:Int):pathsN d z wh fc b<=1000000000000000000:=by refine q7 (NK d z wh fc b) (q7 (X8 WW a) WW)
theorem JS(z:Nat->UInt8)(wh:Bool)(fc:Nat->Bool)(b:Int):pathsN 1 z wh fc b=(xC z wh fc b).length:=by
 unfold pathsN;generalize xC z wh fc b=l;induction l with
 | nil=>rfl
 | cons a r ih=>rw[YM,List.sum_cons,ih,Yq];show 1+_=_;omega
variable {z : Nat → UInt8} {wh : Bool} {fc : Nat → Bool} {b h g : Int}
theorem F7{l:List Mv}(a:l.Perm (xC z wh fc b))(d:Nat):(l.map λx=>pathsN d (zE z b x) (!wh) (kB fc x.1 x.2.1 4) (vK z x.1 x.2.1)).sum=pathsN (d+1) z wh fc b:=(a.map _).sum_nat
theorem Nd(a:kJ z wh fc b)(d:-1<=b)(e:b<=63):(yo z wh fc b).Perm (xC z wh fc b):=(List.perm_ext_iff_of_nodup (fF a) (fB z wh fc b)).2 (je a d e)
theorem Kj(e:kJ z wh fc b)(a:-1<=b)(d:b<=63):(yY z wh fc b).Perm (xC z wh fc b):=by rw[qk3 e a d];exact xq _
theorem LQ{f:Mv->Nat}{a:List Mv}{x:Mv}{b:List Mv}(h:a++[x] <+: b):(a.map f).sum+f x<=(b.map f).sum:=by obtain⟨r,rfl⟩:=h;simp only[Ys,List.sum_append,YM,Wi,List.sum_cons,List.sum_nil];omega
end
def zm(g:Nat)(w w':I6):Prop:=Fr (λk _=>k≠g) w w'
theorem zm.refl(g:Nat)(w:I6):zm g w w:=ZP
theorem zm.trans{b c:I6}(h:zm g a b)(k:zm g b c):zm g a c:=Fr.trans h k
theorem zm.of{b:I6}(h:Gr a b):zm g a b:=Fr.of_gr h
theorem zm.size{b:I6}(h:zm g a b):a.heap.size<=b.heap.size:=Fr.size h
theorem zm.gr{b:I6}(h:zm g a b)(d:a.heap.size<=g):Gr a b:=Fr.below h Zy (λk _ e=>O)
theorem zm.at{b:I6}(h:zm g a b){o:Obj}(e:a.heap[k]?=S o)(d:k≠g):b.heap[k]?=S o:=Fr.same h k o e d
theorem zm.below{b c:I6}(h:zm g a b)(k:Below a.heap.size b c):zm g a c :=
 ⟨k.os.trans h.os,k.tape.trans h.tape,k.output.trans h.output,q7 h.size k.size,λi o e q=>(k.block i (qB.1 e).1).trans (h.same i o e q)⟩
theorem Mz{L:Nat}{lb:I0}{C:Nat->Prop}{W:List Mv}(a9:It prog L lb vr (λ_=>False) C W w)(a5:∀args w,(callFunc L args).run prog w=.ok (.enter L args) w)(M:∀k,C k->k<w.heap.size)(g:Nat)(a6:¬ C g)(c5:g<w.heap.size)
 (b2 b3 Z:Nat) (a:Mv->Nat) (v:I6->Prop) (H:∀A G,v A->Fr (λk _=>k<w.heap.size) A G->v G) (h0:v w)
 (hw:∀f t u,(f,t,u)∈W->∀V,v V->Calls prog 96 #[Zc (ZJ f t u),ZI b2,ZI b3,ZI Z] V λe V'=>e=Zd (I Zh (a (f,t,u):Nat))/\zm g V V'/\v V')
 (hb:(W.map a).sum<=1000000000000000000) :
 Calls prog 95 #[.func (.func L) #[] lb,.func (.func 96) #[] #[ZI b2,ZI b3,ZI Z]] w λe w'=>e=Zd (I Zh ((W.map a).sum:Nat))/\zm g w w'/\v w':=by
 obtain⟨z,i⟩:∃z:I7,z=.func (.func 96) #[] #[ZI b2,ZI b3,ZI Z]:=⟨_,R⟩;rw[<-i];refine(ZY (n:=9)).1 ?_;refine callsIn_of_wp_marks func95 rfl trivial ?_ R;simp only[ntmps95,Nat.reduceAdd,Nat.reduceSub,Zr];refine Z9.2 ?_;have c4:z.oneCell'=Zk:=by rw[i];rfl
 rw[i];go_wp2_with fail;rw[<-i];obtain⟨h1,h2⟩:=x6 w (.cells #[z] 172) (.cells #[I Zh 0] 23);have B:Gr w ((w.alloc (.cells #[z] 172)).alloc (.cells #[I Zh 0] 23)):=ZN.al;have b4:((w.alloc (.cells #[z] 172)).alloc (.cells #[I Zh 0] 23)).heap.size=w.heap.size+2:=WU;generalize ((w.alloc (.cells #[z] 172)).alloc (.cells #[I Zh 0] 23))=w2 at h1 h2 B b4 |-;have b6:∀{A G},v A->Gr A G->w.heap.size<=A.heap.size->v G:=λh k _=>H _ _ h (Fr.of_gr k);refine Z9.1 (xj (n:=9) (gf:=L) (lb:=lb) R a5 a9 (λ_ h=>h.elim) (λk P=>by have:=M k P;omega) (Fr.of_gr B) (λ_=>R)
  (λy V=>V.heap[w.heap.size]?=S (.cells #[z] 172)/\V.heap[w.heap.size+1]?=S (.cells #[I Zh ((y.map a).sum:Nat)] 23)/\zm g w V/\w2.heap.size<=V.heap.size/\v V)
  (λ_ _ _=>False)
  ?sI (λ_ _ _ _ h _=>h) ⟨h1,h2,zm.of B,Zy,H _ _ h0 (Fr.of_gr B)⟩ ?rnd ?done (λ_ _ _ _ _ _ h _=>h.elim))
 case sI=>exact λs A G h f=>⟨f.same _ _ h.1 (Zi O),f.same _ _ h.2.1 (Zi O),zm.below h.2.2.1 (f.below (n:=w.heap.size) (zm.size h.2.2.1) (λk o P=>Zi O)),q7 h.2.2.2.1 f.size,H _ _ h.2.2.2.2 (f.mono λk o _ P=>Zi O)⟩
 case done=>rintro D V hD ⟨T,F,hg,f0,b1⟩ hK;have c2:=(qi F).1;go_wp2_with fail;refine⟨WU,Zi ⟨_,_,R,YU hK,?_⟩⟩;refine⟨_,Wh R _ _ _,R,zm.below hg (XZ (w:=w2) (n₀:=w.heap.size) O _ D _ _ hD hK R R),H _ _ b1 (Fr.of_below (n:=w.heap.size) (XZ (w:=w2) (n₀:=w.heap.size) O _ D _ _ hD hK R R) λk _ _ P=>P)⟩
 case rnd=>
  rintro l1 y ⟨fr,J,u⟩ V b7 hx ⟨T,F,hg,f0,b1⟩ hl;have c6:l1<V.heap.size:=hl.elim λr hr=>(qB.1 hr).1;simp only[vr,gJ];gi_wp2;refine⟨ZP.alloc _,?_⟩;intro d f2 a4 d0;clear b1;obtain⟨T,F,hg,f0,b1⟩:=a4;have kx:d.heap[V.heap.size]?=S (.cells (ZJ fr J u) 87):=f2.same _ _ (ZQ V _) O;generalize V.heap.size=Bx at kx |-;have Q:(fr,J,u)∈W:=hx.subset WU;have d5:=LQ (f:=a) hx;obtain⟨j,p⟩:∃n,Y (n=(y.map a).sum):=⟨_,X R⟩;obtain⟨xv,x⟩:∃n,Y (n=a (fr,J,u)):=⟨_,X R⟩;have b5:Y ((((y++[((fr,J,u):Mv)]).map a).sum:Nat)=j+xv):=X (by rw[p.a,x.a];simp);have l:=X (hw fr J u Q);rw[<-p.a]at F d5;rw[<-x.a]at d5 l;clear p x;have d4:IntKind.u64.wrap ((j:Int)+xv)=(j:Int)+xv:=Vh;have d1:d.drew.cell? ⟨w.heap.size,0,N⟩=S z:=(qi T).1;rw[i]at d1;have d2:d.drew.cell? ⟨w.heap.size+1,0,N⟩=S (I Zh j):=(qi F).1;have d3:d.drew.frozen? ⟨w.heap.size+1,0,N⟩=Zl:=(qi F).2;obtain⟨x0,x1,x2⟩:=qm (show d.drew.heap[Bx]?=_ from kx);have a8:v d.drew:=H _ _ b1 (ZP.drew);have aft:∀b,zm g d.drew b->(b.cell? ⟨w.heap.size,0,N⟩=S (.func (.func 96) #[] #[ZI b2,ZI b3,ZI Z])/\b.cell? ⟨w.heap.size+1,0,N⟩=S (I Zh j)/\b.frozen? ⟨w.heap.size+1,0,N⟩=Zl):=λb E=>by have e1:=E.at (show d.drew.heap[w.heap.size]?=_ from T) O;have e2:=E.at (show d.drew.heap[w.heap.size+1]?=_ from F) O;exact⟨by rw[<-i];exact(qi e1).1,(qi e2).1,(qi e2).2⟩
  have K:=X aft;clear aft;have a0:Y (∀b,zm g d.drew b->v b->Fr (jM w2.heap.size (λ_=>False) C) d (b.setCell ⟨w.heap.size+1,0,N⟩ (I Zh ((j:Int)+xv)))/\(b.setCell ⟨w.heap.size+1,0,N⟩ (I Zh ((j:Int)+xv))).heap[w.heap.size]?=S (.cells #[z] 172)/\(b.setCell ⟨w.heap.size+1,0,N⟩ (I Zh ((j:Int)+xv))).heap[w.heap.size+1]?=S (.cells #[I Zh ((((y++[((fr,J,u):Mv)]).map a).sum:Nat):Int)] 23)/\zm g w (b.setCell ⟨w.heap.size+1,0,N⟩ (I Zh ((j:Int)+xv)))/\w2.heap.size<=(b.setCell ⟨w.heap.size+1,0,N⟩ (I Zh ((j:Int)+xv))).heap.size/\v (b.setCell ⟨w.heap.size+1,0,N⟩ (I Zh ((j:Int)+xv)))):=X (λb E b0=>by
   have m:zm g d b:=zm.trans (zm.of (Gr.refl d).drew) E;have e1:=m.at T O;have e2:=m.at F O;have fs:Fr (λk _=>k≠w.heap.size+1) b (b.setCell ⟨w.heap.size+1,0,N⟩ (I Zh ((j:Int)+xv))):=ZP.setCell _ (λo _ q=>q R);refine⟨Fr.trans (Fr.mono m λk o _ q=>?_) (fs.mono λk o _ q=>?_),fs.same _ _ e1 O,?_,Fr.setNew (zm.trans hg m) _ (show w.heap.size<=w.heap.size+1 from O),?_,H _ _ b0 (fs.mono λk o _ q=>O)⟩
   .rintro rfl;obtain q|q:=q
    .exact a6 q
    .omega
   .rintro rfl;obtain q|q:=q
    .have:=M _ q;omega
    .omega
   .have:=jm (v:=I Zh ((j:Int)+xv)) e2;rw[this,b5.a];simp
   .have:=zm.size m;simp[World.setCell];omega)
  gi_wp2;gi_region_with (refine⟨trivial,?_⟩;gi_at_call 96;refine((ZY.2 (l.a _ (by with_reducible exact a8))).inRound l1).mono ?_;rintro e wc ⟨rfl,f1,a7⟩;obtain⟨a1,a2,a3⟩:=K.a wc f1);all_goals
   gi_wp2;exact a0.a _ f1 a7
section
structure LD(g:Nat):Prop where
 t1:g≠2
 t2:g≠3
 t3:g≠0
 t4:g≠1
structure Wt(w:I6):Prop where
 tab:jF w
 cas:jQ w
 st:vT w
 hom:vJ w
theorem Wt.gr(h:Wt w)(g:Gr w w'):Wt w':=⟨h.tab.gr g,h.cas.gr g,h.st.gr g,h.hom.gr g⟩
theorem Wt.fx(h:Wt w)(a:LD g)(f:zm g w w'):Wt w':=⟨h.tab.fr f (λ_=>a.t1.symm),h.cas.fr f (λ_=>a.t2.symm),h.st.fr f (λ_=>a.t3.symm),h.hom.fr f (λ_=>a.t4.symm)⟩
theorem Wt.lt(h:Wt w)(e:w.heap.size<=n):LD n:=by have a:=h.tab.2;have b:=h.cas.2;have c:=h.st.2;have d:=h.hom.2;exact⟨O,O,O,O⟩
theorem Wt.low(h:Wt w)(d:Wt w1)(f:Fr (λk _=>k<w1.heap.size) w w'):Wt w':=⟨⟨λj e=>f.cell (h.tab.1 j e) (λ_ _=>d.tab.2),qN h.tab.2 f.size⟩,⟨λj v b=>f.cell (h.cas.1 j v b) (λ_ _=>d.cas.2),qN h.cas.2 f.size⟩,⟨λj v b=>f.cell (h.st.1 j v b) (λ_ _=>d.st.2),qN h.st.2 f.size⟩,⟨λj v b=>f.cell (h.hom.1 j v b) (λ_ _=>d.hom.2),qN h.hom.2 f.size⟩⟩
def Jp(C:Nat->Prop)(w:I6):Prop:=∀k,C k->k<w.heap.size/\((k=2\/k=3\/k=0)\/∃c ty fr,ty≠168/\w.heap[k]?=S (Z c ty fr))
theorem Jp.not{C:Nat->Prop}(h:Jp C w)(a:LD g){S:I0}{fr:Nat × Nat}(d:w.heap[g]?=some (Z S 168 fr)):¬ C g:=λb=>by
 rcases(h g b).2 with(e|e|e)|⟨c,ty,i,f,e⟩
 .exact a.t1 e
 .exact a.t2 e
 .exact a.t3 e
 .rw[d]at e;injection e with e
  injection e with _ e _
  exact f e.symm
structure Su(gm gi:Nat)(PA:I0)(xs:List Mv)(w:I6):Prop where
 em:∀args w,(callFunc gm args).run prog w=.ok (.enter gm args) w
 ei:∀args w,(callFunc gi args).run prog w=.ok (.enter gi args) w
 go:Calls prog gm #[Zc PA] w λe w'=>∃lb C,e=Zd (.func (.func gi) #[] lb)/\Gr w w'/\Jp C w'/\It prog gi lb vr (λ_=>False) C xs w'
variable {z : Nat → UInt8} {wh : Bool} {fc : Nat → Bool} {b h g : Int} {PA : I0}
theorem TD(r:jE z wh fc b h g PA)(o:Ok z wh fc b h g)(w:I6)(d:Wt w):Su 61 128 PA (xC z wh fc b) w where
 em:=YC func61 WR R
 ei:=YC func128 WR R
 go:=by
  refine Z0 (zk PA w) λw'⟨f,a⟩=>?_;refine⟨_,_,R,a,?_,qxq r o.lay o.b0 o.b1 w.heap.size _ (λ_ h=>h.elim) w' f (d.tab.gr a) (d.cas.gr a)⟩;rintro k (rfl|rfl|rfl)
  .exact⟨(qB.1 f).1,Zj ⟨_,_,_,WW,f⟩⟩
  .exact⟨(d.tab.gr a).2,Zi WU⟩
  .exact⟨(d.cas.gr a).2,Zi WU⟩
theorem TE(r:jE z wh fc b h g PA)(o:Ok z wh fc b h g)(w:I6)(G:Wt w):Su 65 155 PA (yo z wh fc b) w where
 em:=YC func65 WR R
 ei:=YC func155 WR R
 go:=by
  have d:=qjw o.good o.b0 o.b1;have l:z6 (λ_=>False):=λ_ h=>h.elim;refine(qzm PA w).mono ?_;rintro e w' ⟨E,F,Bf,rfl,p,q,j,x,m⟩;have i:=G.st.gr m;have B:=Ps.of r p;have A:=ak d.home E w.heap.size _ l w' (qi q).1 B i;refine⟨_,_,R,m,?_,qkg A (YC func223 WR R) (YC func153 WR R) (z6.cells l) (λc fr h=>h) ?_ F Bf (uS z wh b) j x ?_⟩
  .rintro k ((rfl|rfl|rfl)|rfl|rfl)
   .exact⟨(qB.1 q).1,Zj ⟨_,_,_,WW,q⟩⟩
   .exact⟨(qB.1 p).1,Zj ⟨_,_,_,WW,p⟩⟩
   .exact⟨i.2,Zi WU⟩
   .exact⟨(qB.1 j).1,Zj ⟨_,_,_,WW,j⟩⟩
   .exact⟨(qB.1 x).1,Zj ⟨_,_,_,WW,x⟩⟩
  .rintro k (rfl|rfl|rfl)
   .exact(qB.1 q).1
   .exact(qB.1 p).1
   .exact i.2
  .rintro⟨f,t,u⟩ v V C;obtain⟨y,H,n⟩:=d.kg _ v;have D:=iI d.home v;have:=mt r f t u D.1 D.2 (d.k1 f t u v) (d.k2 f t u v) y H n w.heap.size V (C.same _ _ p (Zj (Zi R))) (i.fr C (λ_=>Zj (Zj R)));have e:uS z wh b (f,t,u)=!(vL (zE z b (f,t,u)) y (!wh)):=by unfold uS;rw[n];rfl
   rw[e];exact this
structure LB(n:Int)(ga gm gi:Nat):Prop where
 is:(n=1/\ga=64/\gm=65/\gi=155)\/(n=2/\ga=60/\gm=61/\gi=128)
theorem LB.mk'{n:Int}(a:LB n j e d)(r:jE z wh fc b h g PA)(o:Ok z wh fc b h g)(w:I6)(f:Wt w):∃i:List Mv,i.Perm (xC z wh fc b)/\Su e d PA i w:=by
 obtain⟨_,_,rfl,rfl⟩|⟨_,_,rfl,rfl⟩:=a.is
 .exact⟨_,Nd o.good o.b0 o.b1,TE r o w f⟩
 .exact⟨_,List.Perm.refl _,TD r o w f⟩
theorem LB.em{n:Int}{b:Nat}(a:LB n d b e):∀args w,(callFunc b args).run prog w=.ok (.enter b args) w:=by
 obtain⟨_,_,rfl,rfl⟩|⟨_,_,rfl,rfl⟩:=a.is
 .exact YC func65 WR R
 .exact YC func61 WR R
theorem LB.list{n:Int}(a:LB n j f e)(r:jE z wh fc b h g PA)(o:Ok z wh fc b h g)(w:I6)(d:Wt w):∃i:List Mv,jI i=jI (xC z wh fc b)/\iM f e PA i w:=by
 obtain⟨_,_,rfl,rfl⟩|⟨_,_,rfl,rfl⟩:=a.is
 .exact⟨_,(Fd o.good o.b0 o.b1).1,mkL r (qjw o.good o.b0 o.b1) w d.st⟩
 .exact⟨_,R,mkS r o.lay o.b0 o.b1 w d.tab d.cas⟩
end
theorem Rz(a:List (Nat × I7)):prog.built 117 a=Instr.fill (λi=>(#[(0,72),(72,1),(73,1)]:Array (Nat × Nat))[i]?) zeroCells117 a:=WR
theorem Pd:zeroCells117.size=74:=WR
theorem BW:(prog.info? 117).map (·.size)=S 74:=WR
theorem fY(h:A.size=72)(d n:Int):(qA A d n).size=74:=by unfold qA;simp[h]
theorem H1(h:A.all (·.oneCell')=Zk)(d n:Int):(qA A d n).all (·.oneCell')=Zk:=by unfold qA;rw[Wo,h];simp[Value.oneCell']
theorem MS(A:I0)(a:A.size=72)(d n:Int):prog.built 117 [(0,Zc A),(1,I L d),(2,I L n)]=S (qA A d n):=by
 rw[Rz];have b:=zo 0 A zeroCells117;have p1:=zo 72 #[I L d] (put 0 A zeroCells117);have p2:=zo 73 #[I L n] (put 72 #[I L d] (put 0 A zeroCells117));have z:=Pd;rw[xv _ _ 0 0 72 _ _ R (by simpa[Value.cells]using a) O,
  xv _ _ 1 72 1 _ _ R R Vl,xv _ _ 2 73 1 _ _ R R Vl]
 simp only[Instr.fill,Value.cells,Xh];apply YV;intro i;rw[p2.2 i WX,p1.2 i WX,b.2 i O];unfold qA;rw[Y7,a];by_cases e:i<72
 .rw[qF WX,qF WX,qI ⟨O,O⟩,qI e];simp
 .by_cases f:i<74
  .have:i=72\/i=73:=O;rcases this with rfl|rfl<;>simp
  .rw[qF WX,qF WX,qF O,qF e,Z6 O,Z6 WX]
theorem NC{g:Int}(r:jE z wh fc b h g PA):jE z wh fc b 0 0 ((PA.setIfInBounds 70 (I L 0)).setIfInBounds 71 (I L 0)):=by
 have d:=r.size;have at':∀i,i≠70->i≠71->((PA.setIfInBounds 70 (I L 0)).setIfInBounds 71 (I L 0))[i]?=PA[i]?:=λi e f=>by rw[XO O,XO O]
 exact⟨by simp[d],λi a=>by rw[at' i O O];exact r.sq i a,by rw[at' 64 O O];exact r.wh,λi a=>by rw[at' _ O O];exact r.c i a,by rw[at' 69 O O];exact r.b,
  by rw[XO O,Array.getElem?_setIfInBounds_self_of_lt O],by rw[Array.getElem?_setIfInBounds_self_of_lt WX]⟩
theorem Qa{g:Int}(r:jE z wh fc b h g PA)(d n:Int)(w:I6) :
 Calls prog 45 #[Zc PA,I L d,I L n] w λe w'=>∃f,e=Zd (Zc (qA f d n))/\jE z wh fc b 0 0 f/\Gr w w':=by
 obtain⟨l,y⟩:=x6 w (Z PA 70) (Z zeroCells117 117);have k:Gr w ((w.alloc (Z PA 70)).alloc (Z zeroCells117 117)):=ZN.al;have i:=X r;have D:=r.size;clear r;go_enter func45,ntmps45;go_upto_region 1 with fail;generalize ((w.alloc (Z PA 70)).alloc (Z zeroCells117 117))=a at l y k |-;have p:a.cell? ⟨w.heap.size,70,N⟩=S (I L h):=by rw[qn l];exact i.a.h
 have q:a.cell? ⟨w.heap.size,71,N⟩=S (I L g):=by rw[qn l];exact i.a.g
 have u:a.frozen? ⟨w.heap.size,70,N⟩=Zl:=xr l;have x:a.frozen? ⟨w.heap.size,71,N⟩=Zl:=xr l;have o:Gr w ((a.setCell ⟨w.heap.size,70,N⟩ (I L 0)).setCell ⟨w.heap.size,71,N⟩ (I L 0)):=Yr (Yr k Zy _) Zy _;have A:((a.setCell ⟨w.heap.size,70,N⟩ (I L 0)).setCell ⟨w.heap.size,71,N⟩ (I L 0)).heap[w.heap.size]?=S (Z ((PA.setIfInBounds 70 (I L 0)).setIfInBounds 71 (I L 0)) 70):=qv (qv l);have B:((a.setCell ⟨w.heap.size,70,N⟩ (I L 0)).setCell ⟨w.heap.size,71,N⟩ (I L 0)).heap[w.heap.size+1]?=S (Z zeroCells117 117):=by rw[Yg _ _ _ _ WU,Yg _ _ _ _ WU];exact y
 go_upto_region 2 with fail;generalize ((a.setCell ⟨w.heap.size,70,N⟩ (I L 0)).setCell ⟨w.heap.size,71,N⟩ (I L 0))=E at A B o |-;have j:Y (jE z wh fc b 0 0 ((PA.setIfInBounds 70 (I L 0)).setIfInBounds 71 (I L 0))):=X (NC i.a);generalize (PA.setIfInBounds 70 (I L 0)).setIfInBounds 71 (I L 0)=f at A j;have m:=j.a.size;have C:=X (qx j.a);clear p q u x l y k i D;go_wp2_with(first
  | (refine ZD w.heap.size f (by with_reducible exact A) m ?_)
  | (refine qqq R 117 #[(0,.tmp 9),(1,.tmp 10),(2,.tmp 11)] R (qA f d n) ?_ ?_;focus (first|(go_simp;exact MS f m d n)|(simp;exact MS f m d n)))
  | (refine ZU R 117 _ _ R (w.heap.size+1) (qA f d n) R R 117 zeroCells117 (by with_reducible exact B) (by rw[fY m];exact BW) (by rw[fY m];exact Pd) (H1 C.a d n) ?_))
 exact ZS (v:=Zc (qA f d n)) (Yp results45 _ _ (w.heap.size+1) 117 _ (0,0) _ R (Zt B) underlying117 rfl (by rw[fY m];exact BW)) R ⟨f,R,j.a,o.setRow _ O _⟩
structure Qh(g n:Nat)(I:I6->Prop):Prop where
 st:∀A A',I A->Fr (λk _=>k=g) A A'->I A'
 ob:∀A,I A->∃S fr,A.heap[g]?=some (Z S 168 fr)
 rc:∀{z:I2}{wh:Bool}{fc:I5}{b h gg:Int}{QA:I0},Ok z wh fc b h gg->jE z wh fc b 0 0 QA->∀d:Nat,1<=d->d<=3->∀(way:Int)(W:I6),I W →
  Calls prog 46 #[Zc #[svN g n],Zc (qA QA (d:Int) way)] W λe w'=>(e=Zd (Ze #[.int Zh 0,Za Zl])\/e=Zd (Ze #[.int Zh (pathsN d z wh fc b:Nat),Za Zk]))/\Gr W w'
 rm:∀{z:I2}{wh:Bool}{fc:I5}{b h gg:Int}{QA:I0},Ok z wh fc b h gg->jE z wh fc b 0 0 QA->∀d:Nat,1<=d->d<=3->∀(way:Int)(W:I6),I W →
  Calls prog 48 #[Zc #[svN g n],Zc (qA QA (d:Int) way),.int Zh (pathsN d z wh fc b:Nat)] W λe w'=>(∃v,e=Zd v)/\zm g W w'/\I w'
theorem J1(g:Nat)(Q:I0)(w:I6):ZL 46 #[Zc #[svN g 0],Zc Q] w (Ze #[I Zh 0,Za Zl]):=by unfold svN;go_enter func46,ntmps46;go_wp2_with fail;go_ret2;exact⟨R,ZN.al⟩
theorem H0(g:Nat)(Q:I0)(v:Int)(w:I6):Calls prog 48 #[Zc #[svN g 0],Zc Q,I Zh v] w λe w'=>(∃v,e=Zd v)/\Gr w w':=by unfold svN;go_enter func48,ntmps48;go_wp2_with fail;go_end0;exact⟨⟨_,R⟩,ZN.al⟩
theorem TG(g:Nat):Qh g 0 (λA=>∃S fr,A.heap[g]?=some (Z S 168 fr)) where
 st:=λA q h f=>by obtain⟨S,fr,h⟩:=h;exact⟨S,fr,f.same _ _ h R⟩
 ob:=λA h=>h
 rc:=by
  intro z wh fc b h m l o r d n p a W j;exact(J1 g _ W).mono λe w' h=>⟨Zi h.1,h.2⟩
 rm:=by
  intro z wh fc b h m l o r d n p a W j;obtain⟨S,fr,i⟩:=j;exact(H0 g _ _ W).mono λe w' k=>⟨k.1,zm.of k.2,S,fr,(ZE k.2 i)⟩
def ctrA(ga gm:Nat)(wn:Int)(g n:Nat):I0:=#[.func (.func ga) #[] #[],.func (.func gm) #[] #[],I L wn,svN g n]
theorem Jc:(prog.info? 78).map (·.size)=S 4:=WR
def Mb(g n:Nat)(I:I6->Prop)(ga gm:Nat)(wn:Int)(d:Nat):Prop :=
 ∀{z:I2}{wh:Bool}{fc:I5}{b h gg:Int}{PA:I0},Ok z wh fc b h gg->jE z wh fc b h gg PA->∀W:I6,I W->Wt W →
  Calls prog 25 #[Zc (ctrA ga gm wn g n),Zc PA,.int L d] W λe w'=>e=Zd (.int Zh (pathsN d z wh fc b:Nat))/\zm g W w'/\I w'
def Sw(g n:Nat)(I:I6->Prop)(ga gm:Nat)(wn:Int)(d:Nat):Prop :=
 ∀{z:I2}{wh:Bool}{fc:I5}{b h gg:Int}{PA:I0},Ok z wh fc b h gg->jE z wh fc b h gg PA->∀W:I6,I W->Wt W →
  Calls prog 47 #[Zc (ctrA ga gm wn g n),Zc PA,.int L d] W λe w'=>e=Zd (.int Zh (pathsN d z wh fc b:Nat))/\zm g W w'/\I w'
structure Mg(g n:Nat)(I:I6->Prop)(ga gm:Nat)(wn:Int)(PA:I0)(d:Nat)(b1 b2 b3:Nat)(W:I6):Prop where
 c:W.heap[b1]?=S (Z (ctrA ga gm wn g n) 78)
 p:W.heap[b2]?=S (Z PA 70)
 d:W.heap[b3]?=S (Z #[.int L d] 3)
 wt:Wt W
 i:I W
theorem Mg.fx{u:I6->Prop}{wn:Int}{b:I6}(h:Mg g n u k l wn PA d e i j W)(a:LD g)(f:zm g W b)(m:e≠g)(o:i≠g)(q:j≠g)(r:u b):Mg g n u k l wn PA d e i j b :=
 ⟨f.at h.c m,f.at h.p o,f.at h.d q,h.wt.fx a f,r⟩
theorem Mg.low{w:I6->Prop}{wn:Int}{b:Nat}{v:Nat}(h:Mg g n w j l wn PA d b e i W)(f:Fr (λk _=>k<v) W a)(m:b<v)(o:e<v)(q:i<v)(u:Wt a)(r:w a):Mg g n w j l wn PA d b e i a :=
 ⟨f.same _ _ h.c m,f.same _ _ h.p o,f.same _ _ h.d q,u,r⟩
structure SC(g n:Nat)(I:I6->Prop)(ga gm:Nat)(wn:Int)(PA:I0)(d:Nat)(b1 b2 b3:Nat)(V:I6)(f t:Nat)(u:UInt8)(W:I6):Prop where
 cw:Mg g n I ga gm wn PA d b1 b2 b3 W
 m:W.heap[V.heap.size]?=S (Z (ZJ f t u) 87)
 fx:zm g V W
theorem M3{v:I6->Prop}{y:Nat}{wn:Int}(hd:d<=3)(mi:Qh g n v)(aw:LD g)(ih:Mb g n v x y wn d){M:Int}(o:Ok z wh fc b h M)(r:jE z wh fc b h M PA)
 (j A B:Nat) (h1:j≠g) (h2:A≠g) (h3:B≠g) (f t:Nat) (u:UInt8) (a3:(f,t,u)∈xC z wh fc b) (V:I6) (a1:Mg g n v x y wn PA (d+1) j A B V) :
 Calls prog 96 #[Zc (ZJ f t u),ZI j,ZI A,ZI B] V λe V'=>e=Zd (I Zh ((pathsN d (zE z b (f,t,u)) (!wh) (kB fc f t 4) (vK z f t):Nat):Int))/\zm g V V'/\v V':=by
 have hz:=r.size;obtain⟨c0,c1,c2,c3⟩:=o.clk;obtain⟨hf,ht,hu,k1,k2⟩:=o.mv a3;have P:Y (∀W,vJ W->Calls prog 50 #[Zc PA,Zc (ZJ f t u)] W λe w'=>∃Q,e=Zd (Zc Q)/\jE (zE z b (f,t,u)) (!wh) (kB fc f t 4) (vK z f t) (kK z f t h) (kj wh M) Q/\Gr W w'):=X λW hH=>iJ r f t u hf ht k1 k2 c0 c1 c2 c3 W hH;have J:Y (∀Q,jE (zE z b (f,t,u)) (!wh) (kB fc f t 4) (vK z f t) (kK z f t h) (kj wh M) Q->∀W,v W->Wt W->Calls prog 25 #[Zc (ctrA x y wn g n),Zc Q,I L d] W λe w'=>e=Zd (I Zh ((pathsN d (zE z b (f,t,u)) (!wh) (kB fc f t 4) (vK z f t):Nat):Int))/\zm g W w'/\v w'):=X λQ a2 W F q=>ih (o.next a3) a2 W F q;obtain⟨S0,a0,H⟩:=mi.ob V a1.i;have T:g<V.heap.size:=(qB.1 H).1;have l:Y (∀W w,SC g n v x y wn PA (d+1) j A B V f t u W->zm g W w->v w->SC g n v x y wn PA (d+1) j A B V f t u w):=X λW w k fx F=>⟨k.cw.fx aw fx h1 h2 h3 F,fx.at k.m O,zm.trans k.fx fx⟩;have a4:Y (∀W w,v W->Gr W w->v w):=X λW w F k=>mi.st W w F (Fr.of_gr k);have D:SC g n v x y wn PA (d+1) j A B V f t u (V.alloc (Z (ZJ f t u) 87)).drew:=by have gr:Gr V (V.alloc (Z (ZJ f t u) 87)).drew:=ZN.drew;exact⟨a1.fx aw (zm.of gr) h1 h2 h3 (a4.a _ _ a1.i gr),Z7 V _,zm.of gr⟩
 have ed:IntKind.i64.wrap (((d+1:Nat):Int)-1)=(d:Int):=Vc;have a6:IntKind.i64.wrap (d:Int)=d:=Vc;generalize pathsN d (zE z b (f,t,u)) (!wh) (kB fc f t 4) (vK z f t)=a7 at J |-;clear o r a3 ih a1 H T c0 c1 c2 c3 hf ht hu k1 k2 mi;go_enter func96,ntmps96;go_upto_region 1 with fail;refine ZT (S:=SC g n v x y wn PA (d+1) j A B V f t u) WR D (λa=>?_);clear D;refine wpAnyH_take (i:=0) (v:=Zc (ctrA x y wn g n)) R WR WR WR (λ_ _ _ h=>h) (Or.inl ⟨Vb,λw' q=>(by
  have a5:w'.cell? ⟨j,0,N⟩=S (.func (.func x) #[] #[]):=T7
  have e1:w'.cell? ⟨j,1,N⟩=S (.func (.func y) #[] #[]):=T7
  have e2:w'.cell? ⟨j,2,N⟩=S (I L wn):=T7
  have e3:w'.cell? ⟨j,3,N⟩=S (svN g n):=T7
  go_simp;rfl)⟩) a ?_
 simp only[py];refine ty 1 (Zc PA) R (zy hz Vb _ R A R (λ_ h=>qy h.cw.p)) a ?_;refine wpAnyH_take (i:=2) (v:=Zc (ZJ f t u)) R WR WR WR (λ_ _ _ h=>h) (Or.inl ⟨Vb,λw' q=>(by
  obtain⟨a5,e1,e2⟩:=qm q.m;go_simp;try rfl)⟩) a ?_
 simp only[py];refine wpAnyH_take (i:=4) (v:=I L (d+1:Nat)) R WR WR WR (λ_ _ _ h=>h) (Or.inl ⟨Vb,λw' q=>(by
  have a5:=(qi q.cw.d).1;go_simp;try rfl)⟩) a ?_
 simp only[py];refine ZB 5 (I L d) R (λw' q=>by go_simp;first|done|exact ed|exact a6) a ?_;refine rd 3 λK hK=>?_;go_simp;refine(P.a _ a.cw.wt.hom).mono ?_;rintro e wa ⟨Q,rfl,a2,CQ⟩;refine hK.out _ _ (l.a _ _ a (zm.of CQ) (a4.a _ _ a.cw.i CQ)) λa=>?_;clear hK K CQ;try simp only[py]
 refine rd 6 λK hK=>?_;go_simp;refine Z0 (J.a Q a2 _ a.cw.i a.cw.wt) λwb⟨E,G⟩=>?_;refine hK.out _ _ (l.a _ _ a E G) λa=>?_;clear hK K E;try simp only[py]
 refine rd 7 λK hK=>?_;go_simp;refine hK.out _ _ a λa=>?_;clear hK K;try simp only[py]
 refine ZZ WR ?_ _;go_wp2_with fail;go_ret;exact⟨R,a.fx,G⟩
theorem M2{a5:I6->Prop}{D M:Nat}{wn:Int}(mi:Qh g n a5)(aw:LD g)(wy:LB wn D l M)(d:Nat)(hd:d+1<=3)(ih:Mb g n a5 D l wn d):Sw g n a5 D l wn (d+1):=by
 intro z wh fc b h gg PA o r w a8 hw;have hz:=r.size;obtain⟨S0,a0,J⟩:=mi.ob w a8;have a2:g<w.heap.size:=(qB.1 J).1;obtain⟨x1,q,x3,x4⟩:=jG w (Z (ctrA D l wn g n) 78) (Z PA 70) (Z #[I L (d+1:Nat)] 3);have v:Gr w (((w.alloc (Z (ctrA D l wn g n) 78)).alloc (Z PA 70)).alloc (Z #[I L (d+1:Nat)] 3)):=ZN.al.al;obtain⟨a7,hR⟩:∃a7,Y (a7=pathsN (d+1) z wh fc b):=⟨_,X R⟩;rw[<-hR.a];go_enter func47,ntmps47;go_upto_region 1 with fail;show Code.wp _ _ _ _ (((w.alloc (Z (ctrA D l wn g n) 78)).alloc (Z PA 70)).alloc (Z #[I L (d+1:Nat)] 3));generalize (((w.alloc (Z (ctrA D l wn g n) 78)).alloc (Z PA 70)).alloc (Z #[I L (d+1:Nat)] 3))=p at x1 q x3 x4 v |-;have y:a5 p:=mi.st _ _ a8 (Fr.of_gr v);have F:=hw.gr v;have m:Mg g n a5 D l wn PA (d+1) w.heap.size (w.heap.size+1) (w.heap.size+2) p:=⟨x1,q,x3,F,y⟩;obtain⟨K,a,a6⟩:=wy.mk' r o p F;have em:=a6.em;have Q:=X a6.go;have c1:p.cell? ⟨w.heap.size,1,N⟩=S (.func (.func l) #[] #[]):=by rw[qn x1];rfl
 have c3:=(qi x3).1;by_cases h0:d=0
 .subst h0;have b2:Y (∀lb C W,Jp C W->It prog M lb vr (λ_=>False) C K W->ZL 94 #[.func (.func M) #[] lb] W (I L (K.length:Nat))):=X λlb C W h1 h2=>Hr h2 a6.ei (λk a9=>(h1 k a9).1) (by have:=a.length_eq;have:=bu z wh fc b;omega);have hl:a7=K.length:=by rw[hR.a,show 0+1=1 from R,JS,a.length_eq]
  have a3:K.length<=1000000:=by rw[a.length_eq];exact bu z wh fc b
  have ew:IntKind.u64.wrap ((K.length:Nat):Int)=((K.length:Nat):Int):=Vh;have e1:(((0+1:Nat):Int)==1)=Zk:=WW;have P:Y (∀W,Gr p W->zm g w W/\a5 W):=X λW k=>⟨zm.of (Gr.trans v k),mi.st _ _ y (Fr.of_gr k)⟩;subst hl;clear ih J o r m F y mi aw a6 a a8 hw hR;go_wp2_with(first
   | (refine ZD (w.heap.size+1) PA (by with_reducible exact q) hz ?_)
   | (go_at_fn l;refine Q.a.mono ?_;rintro e w1 ⟨lb,C,rfl,G,j,B⟩)
   | (go_at_call 94;refine(b2.a _ _ _ j B).mono ?_;rintro e w2 ⟨rfl,H⟩))
  go_ret;exact⟨R,P.a _ (Gr.trans G H)⟩
 .have e1:(((d+1:Nat):Int)==1)=Zl:=Vp;have b3:Y (∀lb C W,Gr p W->Jp C W->It prog M lb vr (λ_=>False) C K W->Calls prog 95 #[.func (.func M) #[] lb,.func (.func 96) #[] #[ZI w.heap.size,ZI (w.heap.size+1),ZI (w.heap.size+2)]] W λe w'=>e=Zd (I Zh (a7:Nat))/\zm g w w'/\a5 w'):=X λlb C W E j B=>by
   have b0:a5 W:=mi.st _ _ y (Fr.of_gr E);have b1:=m.fx aw (zm.of E) O O O b0;obtain⟨S1,a1,T⟩:=mi.ob W b0;have a4:=ZR E;have:=Mz B a6.ei (λk a9=>(j k a9).1) g (j.not aw T) O w.heap.size (w.heap.size+1) (w.heap.size+2) (λx=>pathsN d (zE z b x) (!wh) (kB fc x.1 x.2.1 4) (vK z x.1 x.2.1)) (Mg g n a5 D l wn PA (d+1) w.heap.size (w.heap.size+1) (w.heap.size+2))
    (λA A' hA f=>hA.low f O O O (hA.wt.low b1.wt f) (mi.st _ _ hA.i (f.mono λk _ _ a9=>O))) b1
    (λf t u hx V hV=>(M3 O mi aw ih o r w.heap.size (w.heap.size+1) (w.heap.size+2) O O O f t u (a.mem_iff.1 hx) V hV).mono λe V' k=>?_) (by rw[F7 a d];exact pb hd z wh fc b)
   .refine this.mono ?_;rintro e w' ⟨rfl,k1,k2⟩;exact⟨by rw[F7 a d,hR.a],zm.trans (zm.of (Gr.trans v E)) k1,k2.i⟩
   .exact⟨k.1,k.2.1,hV.fx aw k.2.1 O O O k.2.2⟩
  clear ih J o r m F y mi aw a6 a a8 hw hR;go_wp2_with(first
   | (refine ZD (w.heap.size+1) PA (by with_reducible exact q) hz ?_)
   | (go_at_fn l;refine Q.a.mono ?_;rintro e w1 ⟨lb,C,rfl,G,j,B⟩)
   | (go_at_call 95;refine(b3.a _ _ _ G j B).mono ?_;rintro e w2 ⟨rfl,H⟩))
  go_ret;exact⟨R,H⟩
structure Pw(g n:Nat)(I:I6->Prop)(ga gm:Nat)(wn:Int)(PA Q:I0)(b1 b2 b3:Nat)(w W:I6):Prop where
 c:W.heap[b1]?=S (Z (ctrA ga gm wn g n) 78)
 p:W.heap[b2]?=S (Z PA 70)
 q:W.heap[b3]?=S (Z Q 117)
 wt:Wt W
 i:I W
 fx:zm g w W
theorem Pw.next{u:I6->Prop}{wn:Int}{Q:I0}{b:I6}(h:Pw g n u j k wn PA Q d e i w W)(a:LD g)(f:zm g W b)(l:d≠g)(m:e≠g)(o:i≠g)(r:u b):Pw g n u j k wn PA Q d e i w b :=
 ⟨f.at h.c l,f.at h.p m,f.at h.q o,h.wt.fx a f,r,zm.trans h.fx f⟩
theorem Pw.c3{i:I6->Prop}{wn:Int}{Q:I0}{a b:Nat}(h:Pw g n i e f wn PA Q a b d w W):W.cell? ⟨a,3,N⟩=S (svN g n):=by rw[qn h.c];rfl
theorem Pw.cs{i:I6->Prop}{b:Nat}{wn:Int}{Q:I0}{a:Nat}(h:Pw g n i b d wn PA Q a e f w W):W.cell? ⟨a,0,N⟩=S (.func (.func b) #[] #[])/\W.cell? ⟨a,1,N⟩=S (.func (.func d) #[] #[])/\W.cell? ⟨a,2,N⟩=S (I L wn):=by refine⟨?_,?_,?_⟩<;>(rw[qn h.c];rfl)
theorem HZ{b0:I6->Prop}{u gi:Nat}{wn:Int}(mi:Qh g n b0)(aw:LD g)(wy:LB wn u x gi):∀d:Nat,d<=3->Mb g n b0 u x wn d:=by
 intro d;induction d with
 | zero =>
  intro _ z wh fc b h gg PA o r w l b1;have a0:Y (∀W,Gr w W->zm g w W/\b0 W):=X λW k=>⟨zm.of k,mi.st _ _ l (Fr.of_gr k)⟩;show Calls prog 25 #[Zc (ctrA u x wn g n),Zc PA,I L 0] w λe w'=>e=Zd (I Zh 1)/\zm g w w'/\b0 w';clear o r l b1 mi;go_enter func25,ntmps25;go_wp2_with fail;go_ret;exact⟨R,a0.a _ ZN.al⟩
 | succ d ih =>
  intro hd z wh fc b h gg PA o r w l b1;have G:Sw g n b0 u x wn (d+1):=M2 mi aw wy d hd (ih O);have hz:=r.size;obtain⟨S0,a8,a3⟩:=mi.ob w l;have a9:g<w.heap.size:=(qB.1 a3).1;obtain⟨x1,x2⟩:=x6 w (Z (ctrA u x wn g n) 78) (Z PA 70);have A:Gr w ((w.alloc (Z (ctrA u x wn g n) 78)).alloc (Z PA 70)):=ZN.al;have a7:((w.alloc (Z (ctrA u x wn g n) 78)).alloc (Z PA 70)).heap.size=w.heap.size+2:=WU
  have M:Y (∀W,Calls prog 45 #[Zc PA,I L (d+1:Nat),I L wn] W λe w'=>∃a,e=Zd (Zc (qA a ((d+1:Nat):Int) wn))/\jE z wh fc b 0 0 a/\Gr W w'):=X λW=>Qa r _ _ W;have D:Y (∀a,jE z wh fc b 0 0 a->∀W,b0 W->Calls prog 46 #[Zc #[svN g n],Zc (qA a ((d+1:Nat):Int) wn)] W λe w'=>(e=Zd (Ze #[I Zh 0,Za Zl])\/e=Zd (Ze #[I Zh (pathsN (d+1) z wh fc b:Nat),Za Zk]))/\Gr W w'):=X λa C W l=>mi.rc o C (d+1) O hd wn W l;have E:Y (∀a,jE z wh fc b 0 0 a->∀W,b0 W->Calls prog 48 #[Zc #[svN g n],Zc (qA a ((d+1:Nat):Int) wn),I Zh (pathsN (d+1) z wh fc b:Nat)] W λe w'=>(∃v,e=Zd v)/\zm g W w'/\b0 w'):=X λa C W l=>mi.rm o C (d+1) O hd wn W l;have V:Y (∀W,b0 W->Wt W->Calls prog 47 #[Zc (ctrA u x wn g n),Zc PA,I L (d+1:Nat)] W λe w'=>e=Zd (I Zh (pathsN (d+1) z wh fc b:Nat))/\zm g W w'/\b0 w'):=X λW l b1=>G o r W l b1;have b4:Y (∀W W',b0 W->Gr W W'->b0 W'):=X λW W' l k=>mi.st W W' l (Fr.of_gr k);have b7:Y (∀a d n,jE z wh fc b 0 0 a->(qA a d n).size=74/\(qA a d n).all (·.oneCell')=Zk):=X λa d n C=>⟨fY C.size d n,H1 (qx C) d n⟩;have e0:(((d+1:Nat):Int)==0)=Zl:=Vp
  generalize pathsN (d+1) z wh fc b=c5 at D E V |-;clear ih a3 o r G mi wy;go_enter func25,ntmps25;go_upto_region 3 with fail;show Code.wp _ _ _ _ ((w.alloc (Z (ctrA u x wn g n) 78)).alloc (Z PA 70));generalize ((w.alloc (Z (ctrA u x wn g n) 78)).alloc (Z PA 70))=w0 at x1 x2 A a7 |-;have a1:b0 w0:=b4.a _ _ l A;have a4:=b1.gr A;have c2:w0.cell? ⟨w.heap.size,2,N⟩=S (I L wn):=by rw[qn x1];rfl
  go_upto_region 4 with(first
   | (refine ZD (w.heap.size+1) PA (by with_reducible exact x2) hz ?_)
   | (go_at_call 45;refine(M.a _).mono ?_;rintro e w1 ⟨a,rfl,C,T⟩;have y1:=Z7 w1 (Z zeroCells117 117);obtain⟨H,b6⟩:=b7.a a ((d+1:Nat):Int) wn C)
   | (refine ZU R 117 _ _ R w1.heap.size (qA a ((d+1:Nat):Int) wn) R R 117 zeroCells117 UI (by rw[H];exact BW) (by rw[H];exact Pd) b6 ?_))
  have y:Pw g n b0 u x wn PA (qA a ((d+1:Nat):Int) wn) w.heap.size (w.heap.size+1) w1.heap.size w ((w1.alloc (Z zeroCells117 117)).setRow w1.heap.size (qA a ((d+1:Nat):Int) wn)):=by
   have hk:Gr w1 ((w1.alloc (Z zeroCells117 117)).setRow w1.heap.size (qA a ((d+1:Nat):Int) wn)):=ZN.setRow _ Zy _;have B:=Gr.trans T hk;exact⟨(Zz B (xe x1)).trans x1,(Zz B (xe x2)).trans x2,Zt y1,a4.gr B,b4.a _ _ a1 B,zm.of (Gr.trans A B)⟩
  have K:w1.heap.size≠g:=by have:=ZR T;omega
  generalize ((w1.alloc (Z zeroCells117 117)).setRow w1.heap.size (qA a ((d+1:Nat):Int) wn))=w2 at y |-;generalize w1.heap.size=b3 at y K |-;have P:w.heap.size≠g:=O
  have b5:w.heap.size+1≠g:=O
  have j:=X (D.a a C);have F:=X (E.a a C);clear M D E a1 a4 c2 x1 x2 A T y1 l b1 b7 C b6 e0;generalize qA a ((d+1:Nat):Int) wn=Q at y j F H |-;have c3:=y.c3;have b2:=y.q
  go_upto_region 5 with(first
   | (refine ZV R 117 _ R b3 R 117 Q (0,0) _ (by with_reducible exact b2) underlying117 rfl (by rw[H];exact BW) ?_)
   | (go_at_call 46;refine(j.a _ y.i).mono ?_;rintro e w3 ⟨rfl|rfl,m⟩))
  .have f:=y.next aw (zm.of m) P b5 K (b4.a _ _ y.i m);clear j c3 b2 y m;obtain⟨d0,d1,d2⟩:=f.cs;have d3:=f.c3;have dp:=f.p
   go_upto_region 8 with(first
    | (refine ZD (w.heap.size+1) PA (by with_reducible exact dp) hz ?_)
    | (refine ZV R 78 _ R w.heap.size R 78 (ctrA u x wn g n) (0,0) _ (by with_reducible exact f.c) underlying78 rfl Jc ?_)
    | (go_at_call 47;refine Z0 (V.a _ f.i f.wt) λw4⟨c4,a2⟩=>?_))
   have J:=f.next aw c4 P b5 K a2;clear d0 d1 d2 d3 dp f c4 a2 V;have c3:=J.c3;have b2:=J.q
   go_wp2_with(first
    | (refine ZV R 117 _ R b3 R 117 Q (0,0) _ (by with_reducible exact b2) underlying117 rfl (by rw[H];exact BW) ?_)
    | (go_at_call 48;refine(F.a _ J.i).mono ?_;rintro e w5 ⟨⟨v,rfl⟩,a5,a6⟩))
   go_ret;exact⟨R,zm.trans J.fx a5,a6⟩
  .have f:=y.next aw (zm.of m) P b5 K (b4.a _ _ y.i m);clear j c3 b2 y m;go_wp2_with fail;go_ret;exact⟨R,f.fx,f.i⟩
theorem He{g:Int}(o:Ok z wh fc b h g)(r:jE z wh fc b h g PA){t:Nat}(j:(f,t,u)∈xC z wh fc b)(w:I6) :
 Calls prog 106 #[Zc PA,Zc (ZJ f t u)] w λe w'=>∃Q,e=Zd (Zc Q)/\jE (zE z b (f,t,u)) (!wh) (kB fc f t 4) (vK z f t) (kK z f t h) (kj wh g) Q/\Gr w w':=by obtain⟨c0,c1,c2,c3⟩:=o.clk;obtain⟨a,d,i,_,_⟩:=o.mv j;have l:=(C8 o.good o.b0 o.b1 a d i).2 ((je o.good o.b0 o.b1 _).2 j);refine(qxg r f t a d u i c0 c1 c2 c3 w).mono ?_;rintro e w' ⟨Q,rfl,m,k⟩;exact⟨Q,R,bT o.good c1 c3 a d i l m,k⟩
theorem JD{g:Int}(o:Ok z wh fc b h g)(r:jE z wh fc b h g PA)(w:I6) :
 Calls prog 54 #[Zc PA] w λe w'=>∃v,e=Zd v/\np w.heap.size v (yY z wh fc b) w'/\Gr w w':=by obtain⟨c0,c1,c2,c3⟩:=o.clk;exact ai r o.good o.b0 o.b1 c0 c1 c2 c3 w
def behN(d:Nat)(z:I2)(wh:Bool)(fc:I5)(b:Int)(x:Mv):Nat:=pathsN d (zE z b x) (!wh) (kB fc x.1 x.2.1 4) (vK z x.1 x.2.1)
structure Rp(w:I6)(PA:I0)(w1 W:I6):Prop where
 p:W.heap[w.heap.size]?=S (Z PA 70)
 gr:Gr w1 W
theorem Rp.next(h:Rp w PA w1 W)(g:Gr W a):Rp w PA w1 a:=⟨(Zz g (xe h.p)).trans h.p,Gr.trans h.gr g⟩
theorem na:∀(d:Nat),d<=3->∀{z:Nat->UInt8}{wh:Bool}{fc:Nat->Bool}{b h g:Int}{PA:I0},Ok z wh fc b h g->jE z wh fc b h g PA->∀w:I6,
 ZL 163 #[Zc PA,I L d] w (I Zh (pathsN d z wh fc b:Nat)):=by
 intro d;induction d with
 | zero =>
  intro _ z wh fc b h g PA o r w;show ZL 163 #[Zc PA,I L 0] w (I Zh 1);clear o r;go_enter func163,ntmps163;go_wp2_with fail;go_ret;exact⟨R,ZN⟩
 | succ d ih =>
  intro hd z wh fc b h g PA o r w;have hz:=r.size;have x:Y (∀W:I6,Calls prog 54 #[Zc PA] W λe w'=>∃v,e=Zd v/\np W.heap.size v (yY z wh fc b) w'/\Gr W w'):=X λW=>JD o r W;have F:=Kj o.good o.b0 o.b1
  have m:Y (∀f t u,(f,t,u)∈yY z wh fc b->∀W:I6,Calls prog 106 #[Zc PA,Zc (ZJ f t u)] W λe w'=>∃Q,e=Zd (Zc Q)/\(∀V:I6,ZL 163 #[Zc Q,I L d] V (I Zh (behN d z wh fc b (f,t,u):Nat)))/\Gr W w'):=X λf t u hx W=>by
   have a5:=F.mem_iff.1 hx;refine(He o r a5 W).mono ?_;rintro e w' ⟨Q,rfl,hq,hg⟩;exact⟨Q,R,λV=>ih O (o.next a5) hq V,hg⟩
  have a1:(yY z wh fc b).length<=20480:=iW _ _ _ _ 64;have a:Y (((yY z wh fc b).map (behN d z wh fc b)).sum=pathsN (d+1) z wh fc b):=X (F7 F d);have q:Y (((yY z wh fc b).map (behN d z wh fc b)).sum<=1000000000000000000):=X (by rw[a.a];exact pb hd z wh fc b)
  have j:Y (d=0->((yY z wh fc b).length:Nat)=pathsN (d+1) z wh fc b):=X λe=>by
   subst e;rw[show 0+1=1 from R,JS,F.length_eq]
  generalize pathsN (d+1) z wh fc b=T at a j |-;generalize behN d z wh fc b=b5 at m a q;generalize yY z wh fc b=ys at x m a1 a q j;clear ih o r F;have y1:=Z7 w (Z PA 70);have M:Gr w (w.alloc (Z PA 70)):=ZN;obtain⟨D,hD⟩:∃D:Int,Y (D=((d+1:Nat):Int)):=⟨_,X R⟩;rw[<-hD.a];have e0:(D==0)=Zl:=by have:=hD.a;rw[qM];omega
  go_enter func163,ntmps163;go_upto_region 3 with fail;generalize w.alloc (Z PA 70)=w0 at y1 M |-;have d1:=X (qy y1);have d0:=xe y1
  go_upto_region 4 with(first
   | (go_at_call 54;refine(x.a _).mono ?_;rintro e w1 ⟨v,rfl,hv,c4⟩;obtain⟨pp,cap,rfl,b3,c6⟩:=bt hv)
   | (refine ql Vb _ R w.heap.size R hz d1.a ?_))
  have a0:=X (Gr.trans M c4);have a2:=X ((Zz c4 d0).trans y1);have d2:=X c6;clear x hv c4 d1 c6 y1 M d0;by_cases h1:d=0
  .subst h1;have hT:=j.a R;subst hT;have e1:(D==1)=Zk:=by have:=hD.a;rw[YF];omega
   have ew:IntKind.u64.wrap (ys.length:Int)=(ys.length:Int):=Vh
   clear j a q m;go_wp2_with fail;go_ret;exact⟨R,a0.a⟩
  .have e1:(D==1)=Zl:=by have:=hD.a;rw[qM];omega
   have ed:IntKind.i64.wrap (D-1)=(d:Int):=by have:=hD.a;rw[YO];omega
   have a6:IntKind.i64.wrap (d:Int)=d:=Vc
   clear j;go_wp2_with fail;go_loopg [6,7] ys.length (λg n i wr=>∃k:Nat,k+g=ys.length/\i=I L k/\n=I Zh ((((ys.take k).map b5).sum:Nat):Int)/\Gr w1 wr)
   case atStart=>exact⟨0,O,R,R,ZO⟩
   case round =>
    obtain⟨k,k1,rfl,rfl,E⟩:=hrel;by_cases b6:k<ys.length
    .obtain⟨gg,rfl,x0,x1,x2⟩:=d2.a k b6;have A:gg<w1.heap.size:=Zx x0;have z0:=x0;have z1:=x1;have z2:=x2;have a3:=X ((Zz E (xe a2.a)).trans a2.a);have b4:=X (qy a3.a);have B:ys[k]∈ys:=Xs _;have b7:ys.take (k+1)=ys.take k++[ys[k]]:=Yd b6;have J:ys.take k++[ys[k]] <+: ys:=by rw[<-b7];exact List.take_prefix _ _
     have G:=LQ (f:=b5) J;have H:Y (((ys.take (k+1)).map b5).sum=((ys.take k).map b5).sum+b5 ys[k]):=X (by rw[b7,Ys,List.sum_append,YM,Wi,List.sum_cons,List.sum_nil,Nat.add_zero]);have a4:=q.a;clear b7 J;clear x0 x1 x2;generalize ys[k]=y at z0 z1 z2 B G H;obtain⟨f,t,u⟩:=y;have c5:=X (m.a f t u B);generalize ((ys.take k).map b5).sum=sv at G H |-;generalize b5 (f,t,u)=xv at G H c5;have b2:IntKind.u64.wrap ((sv:Int)+xv)=((sv+xv:Nat):Int):=Vh
     have d3:=X E;have k0:0<=(k:Int):=O
     have kl:(k:Int)<(ys.length:Int):=O
     clear E G a4 B m q a;go_upto_region 10 with fail;have P:Rp w PA w1 wr.drew:=⟨a3.a,d3.a.drew⟩;refine ZT (S:=Rp w PA w1) WR P (λl=>?_);clear P;refine tq 0 (I Zh sv) l ?_;refine ty 1 (Zc PA) R (zy hz Vb _ R w.heap.size R (λ_ h=>qy h.p)) l ?_;refine tq 2 (Zq (S ⟨gg,0,N⟩) ys.length cap) l ?_;refine tq 3 (I L k) l ?_;refine tq 4 (.pointer (S ⟨gg,k*3,N⟩)) l ?_
     refine wpAnyH_take (i:=5) (v:=Zc (ZJ f t u)) R WR WR WR (λ_ _ _ h=>h) (Or.inl ⟨Vb,λw' CQ=>(by
      have e0:=(ZW CQ.gr A).trans z0;have e1:=(ZW CQ.gr A).trans z1;have e2:=(ZW CQ.gr A).trans z2;go_simp;try rfl)⟩) l ?_
     simp only[py];refine ZB 7 (I L D) R (λw' CQ=>by go_simp;try rfl) l ?_;refine ZB 8 (I L d) R (λw' CQ=>by go_simp;first|done|exact ed|exact a6) l ?_;refine rd 6 λK hK=>?_;go_simp;refine(c5.a _).mono ?_;rintro e w2 ⟨Q,rfl,hq,a7⟩;refine hK.out _ _ (l.next a7) λl=>?_;clear hK K;try simp only[py]
     refine rd 9 λK hK=>?_;go_simp;refine Z0 (hq _) λw3 a8=>?_;refine hK.out _ _ (l.next a8) λl=>?_;clear hK K;try simp only[py]
     refine ZB 10 (I Zh (sv+xv:Nat)) R (λw' CQ=>by go_simp;try exact b2) l ?_;refine rd 11 λK hK=>?_;go_simp;refine hK.out _ _ l λl=>?_;clear hK K;try simp only[py]
     refine ZZ WR ?_ _;have a9:=X l.gr;clear l hq;go_wp2_with fail;go_roundg (gk-1)
     case measure=>omega
     case rel=>exact⟨k+1,O,Vg,by rw[H.a,Int.natCast_add],a9.a⟩
    .have ek:k=ys.length:=O
     subst ek;have hT:((ys.take ys.length).map b5).sum=T:=by rw[XA];exact a.a
     rw[hT];clear a q m hT;go_wp2_with fail;go_ret;exact⟨R,Gr.trans a0.a E⟩
end Go.Proofs.YtnfakamfmkhlbabGreatDoor.C
