import Derived.Test.YtnfakamfmkhlbabGreatDoorB14
set_option maxRecDepth 100000
set_option maxHeartbeats 4000000
set_option linter.all false
open Go.Value renaming int->I,bool->Za,string->Zb,agg->Zc,tuple->Ze,slice->Zq
open Go.IntKind renaming i64->L,u8->Zg,u64->Zh
open Go.Obj renaming cells->Z
open Go.Ending renaming returned->Zd
open Or renaming inl->Zi,inr->Zj
open Option renaming some->S,none->N
open Bool renaming true->Zk,false->Zl
open Decidable renaming decide->Zm
open Go.RowKit renaming Hid->Y
open Go renaming World->I6,Value->I7
namespace Go.Proofs.YtnfakamfmkhlbabGreatDoor.C
open Go.ChangeShapes Go.WideShapes Go.ChangeAt Go.RowKit Go.Shelf Go.Proofs.YtnfakamfmkhlbabGreatDoor.P Tryz
attribute [local go_sem] qd qe Oper.semAt_some
variable {z:I2}{wh:Bool}{b h m:Int}{PA A M:I0}{fc:I5}{w W a w' w1 V:I6}{f n i k g base d e l j x B Bp:Nat}{v:I7}{u:UInt8}{Q:Nat->Obj->Prop}{rs:I3}{y:I1}
section
open Go.Sort
def ixs(c:UInt8):Int:=Lib.indexByte [32,49,50,51,52,53,54,55,56] c
theorem Be:∀c:UInt8,uT c=Zk->ixs c=(c.toNat:Int)-48/\Lib.indexByte xU c=-1/\49<=c.toNat/\c.toNat<=56:=vg WS
theorem Ba:∀c:UInt8,uT c=Zl->-1<=ixs c/\ixs c<=0:=vg WS
theorem Bc:∀c:UInt8,uT c=Zl->0<=Lib.indexByte xU c->ixs c=-1:=vg WS
theorem EW:∀c:UInt8,-1<=Lib.indexByte xU c/\Lib.indexByte xU c<12:=vg WS
theorem mK(s:I4)(hs:s.size<=maxLen)(w:I6):Calls prog 198 #[Zb s] w λe w'=>yf s.data.toList e/\Gr w w':=by
 unfold maxLen at hs;go_enter func198,ntmps198;go_wp2;go_loopg [5,6,7] s.size (λg b5 af i wr=>∃k:Nat,k+g=s.size/\i=I L k/\∃(b:List Int)(a:Bool),vY (s.data.toList.take k)=S (b,a)/\b5=I L b.length/\af=Za a/\∃(v:I0),wr=((w.alloc (Obj.cells #[I Zg 0,I Zg 0,I Zg 0,I Zg 0,I Zg 0,I Zg 0,I Zg 0,I Zg 0] 277)).alloc (Obj.cells v 277))/\yu b v/\b.length<=8)
 case atStart=>exact⟨0,O,R,[],Zl,R,R,R,_,R,yu.nil,WU⟩
 case round=>
  obtain⟨k,k1,rfl,b,a,a2,rfl,rfl,v,rfl,a0,a7⟩:=hrel;have J:=X a2;have hR:=X a0;clear a2 a0;by_cases r:k<s.size
  .obtain⟨xd,m⟩:=Zn (Lib.indexByte (ByteArray.mk #[32,49,50,51,52,53,54,55,56]).data.toList s[k]);obtain⟨W,n⟩:=Zn (Lib.indexByte (ByteArray.mk #[80,78,66,82,81,75,112,110,98,114,113,107]).data.toList s[k]);have a4:-1<=W/\W<12:=by rw[<-n.a];exact EW s[k]
   have b6:Y (bz s[k]=!decide (W<0)):=X (by rw[<-n.a];rfl);cases l:uT s[k]with
   | true =>
    have p:=X l;obtain⟨b3,b4,d3,d4⟩:=Be s[k] l;have e1:xd=(s[k].toNat:Int)-48:=m.a.symm.trans b3;have e2:W=-1:=n.a.symm.trans b4;obtain⟨q,a1⟩:∃q:Nat,s[k].toNat-48=q:=⟨_,R⟩;have e3:xd=(q:Int):=O
    have a8:1<=q/\q<=8:=O
    subst e3 e2;clear l b3 b4 d3 d4 e1 a4 b6;cases a
    .by_cases F:8<b.length+q
     .have f:Y (jL s.data.toList=N):=X (zn s k r (by rw[J.a];unfold zZ;simp only[p.a,YS,Xo,a1,qJ F]));obtain⟨u,y,z,A,B,C,D,E,rfl⟩:=uU hR.a;clear hR;go_wp2_with(go_at_call 111;refine Z1 (xa _ WW _ _) ?_;(first|rw[m.a]|rw[n.a]));refine ZS (v:=Ze #[Zc #[I Zg u,I Zg y,I Zg z,I Zg A,I Zg B,I Zg C,I Zg D,I Zg E],Za Zl]) Vt R ⟨Zj ⟨f.a,_,_,_,_,_,_,_,_,R⟩,?_⟩
      repeat(first|exact ZO|apply Gr.drew|apply Gr.drewN|apply Gr.alloc)
     .have a3:((b.length:Int)==8)=Zl:=Vp
      have Q:=X F;go_wp2_with(go_at_call 111;refine Z1 (xa _ WW _ _) ?_;(first|rw[m.a]|rw[n.a]));go_loopg [5,8] q (λg b5 dd wr=>∃j:Nat,j+g=q/\dd=I L ((q:Int)-j)/\∃d:List Int,d=b++List.replicate j 46/\b5=I L d.length/\∃(v:I0),wr=((w.alloc (Obj.cells #[I Zg 0,I Zg 0,I Zg 0,I Zg 0,I Zg 0,I Zg 0,I Zg 0,I Zg 0] 277)).alloc (Obj.cells v 277))/\yu d v)
      case atStart=>exact⟨0,O,WU,b,WU,R,v,R,hR.a⟩
      case round =>
       obtain⟨j,j1,rfl,d,o,rfl,R',rfl,c6⟩:=hrel;have G:=X o;have c5:=X c6;have P:d.length=b.length+j:=by rw[o];simp
       clear o c6;by_cases hj:j<q
       .have M:d.length<8:=O
        have a6:=c5.a.1;have V:d.length<R'.size:=O
        clear P;have T:((w.alloc (Obj.cells #[I Zg 0,I Zg 0,I Zg 0,I Zg 0,I Zg 0,I Zg 0,I Zg 0,I Zg 0] 277)).alloc (Obj.cells R' 277)).cell? ⟨w.heap.size+1,d.length,N⟩=S (R'[d.length]'V):=UB
        have b2:IntKind.i64.wrap ((q:Int)-j-1)=(q:Int)-((j+1:Nat):Int):=Vc
        have b0:(0:Int)<(q:Int)-j:=O
        go_wp2;go_roundg (gk-1)
        case measure=>omega
        case rel =>refine⟨j+1,O,R,d++[46],?_,WU,_,R,c5.a.snoc M _⟩;rw[G.a,qS,<-List.replicate_succ']
       .have ej:j=q:=O
        clear P;subst ej;go_wp2;go_roundg (s.size-k-1)
        case measure=>omega
        case rel =>have ea:=G.a;refine⟨k+1,O,Vg,d,Zk,?_,R,R,R',R,c5.a,by rw[ea];simp;omega⟩;rw[xi s k r,vj,J.a,ea];unfold zZ;simp only[p.a,YS,Xo,a1,qE Q.a,qR,YH]
    .have f:Y (jL s.data.toList=N):=X (zn s k r (by rw[J.a];unfold zZ;simp only[p.a,YS,Bool.true_or]));obtain⟨u,y,z,A,B,C,D,E,rfl⟩:=uU hR.a;clear hR;go_wp2_with(go_at_call 111;refine Z1 (xa _ WW _ _) ?_;(first|rw[m.a]|rw[n.a]));refine ZS (v:=Ze #[Zc #[I Zg u,I Zg y,I Zg z,I Zg A,I Zg B,I Zg C,I Zg D,I Zg E],Za Zl]) Vt R ⟨Zj ⟨f.a,_,_,_,_,_,_,_,_,R⟩,?_⟩
     repeat(first|exact ZO|apply Gr.drew|apply Gr.drewN|apply Gr.alloc)
   | false =>
    have p:=X l;obtain⟨b3,b4⟩:=Ba s[k] l;have e1:-1<=xd:=by rw[<-m.a];exact b3
    have e2:xd<=0:=by rw[<-m.a];exact b4
    have e3:0<=W->xd=-1:=λh=>by rw[<-m.a];exact Bc s[k] l (by rw[<-n.a]at h;exact h)
    clear b3 b4 l;by_cases c4:W<0
    .have f:Y (jL s.data.toList=N):=X (zn s k r (by rw[J.a];unfold zZ;simp only[p.a,b6.a,qJ c4];rfl));obtain⟨u,y,z,A,B,C,D,E,rfl⟩:=uU hR.a;clear hR;go_wp2_with(go_at_call 111;refine Z1 (xa _ WW _ _) ?_;(first|rw[m.a]|rw[n.a]));refine ZS (v:=Ze #[Zc #[I Zg u,I Zg y,I Zg z,I Zg A,I Zg B,I Zg C,I Zg D,I Zg E],Za Zl]) Vt R ⟨Zj ⟨f.a,_,_,_,_,_,_,_,_,R⟩,?_⟩
     repeat(first|exact ZO|apply Gr.drew|apply Gr.drewN|apply Gr.alloc)
    .have e4:=e3 O;subst e4;clear e1 e2 e3;by_cases F:8<b.length+1
     .have f:Y (jL s.data.toList=N):=X (zn s k r (by rw[J.a];unfold zZ;simp only[p.a,b6.a,qE c4,X3,qR,YH,YS,F]));have M:b.length=8:=O
      have a9:(b.length:Int)=8:=O
      clear F;obtain⟨u,y,z,A,B,C,D,E,rfl⟩:=uU hR.a;clear hR;go_wp2_with(go_at_call 111;refine Z1 (xa _ WW _ _) ?_;(first|rw[m.a]|rw[n.a]));refine ZS (v:=Ze #[Zc #[I Zg u,I Zg y,I Zg z,I Zg A,I Zg B,I Zg C,I Zg D,I Zg E],Za Zl]) Vt R ⟨Zj ⟨f.a,_,_,_,_,_,_,_,_,R⟩,?_⟩
      repeat(first|exact ZO|apply Gr.drew|apply Gr.drewN|apply Gr.alloc)
     .have M:b.length<8:=O
      have a3:((b.length:Int)==8)=Zl:=Vp
      have a5:Y (bz s[k]=Zk):=X (by rw[b6.a,qE c4];rfl);have Q:=X F;have a6:=hR.a.1;have V:b.length<v.size:=O
      have T:((w.alloc (Obj.cells #[I Zg 0,I Zg 0,I Zg 0,I Zg 0,I Zg 0,I Zg 0,I Zg 0,I Zg 0] 277)).alloc (Obj.cells v 277)).cell? ⟨w.heap.size+1,b.length,N⟩=S (v[b.length]'V):=UB
      go_wp2_with(go_at_call 111;refine Z1 (xa _ WW _ _) ?_;(first|rw[m.a]|rw[n.a]));go_loopg [5,8] 0 (λg b5 dd wr=>g=0/\dd=I L (-1)/\b5=I L ((b.length:Int)+1)/\wr=((w.alloc (Obj.cells #[I Zg 0,I Zg 0,I Zg 0,I Zg 0,I Zg 0,I Zg 0,I Zg 0,I Zg 0] 277)).alloc (Obj.cells (v.setIfInBounds b.length (I Zg (s[k].toNat:Int))) 277)))
      case atStart=>exact⟨R,R,R,R⟩
      case round =>
       obtain⟨rfl,rfl,rfl,rfl⟩:=hrel;go_wp2;go_roundg (s.size-k-1)
       case measure=>omega
       case rel =>refine⟨k+1,O,Vg,b++[(s[k].toNat:Int)],Zl,?_,WU,R,_,R,hR.a.snoc M _,WX⟩;rw[xi s k r,vj,J.a];unfold zZ;simp only[p.a,a5.a,qR,YH,YS,qF Q.a]
  .have ek:k=s.size:=O;subst ek;have K:s.data.toList.take s.size=s.data.toList:=Yk WU;rw[K]at J;clear K;by_cases F:b.length=8
   .have H:=hR.a.done F;obtain⟨u,y,z,A,B,C,D,E,rfl⟩:=uU hR.a;have b7:Y (yf s.data.toList (Zd (Ze #[Zc #[I Zg u,I Zg y,I Zg z,I Zg A,I Zg B,I Zg C,I Zg D,I Zg E],Za Zk]))) :=
     X (Zi ⟨b,by unfold jL;rw[J.a];simp[F],by rw[<-H]⟩)
    clear hR H J;go_wp2;refine ZS (v:=Ze #[Zc #[I Zg u,I Zg y,I Zg z,I Zg A,I Zg B,I Zg C,I Zg D,I Zg E],Za Zk]) Vt R ⟨b7.a,?_⟩;exact OC
   .obtain⟨u,y,z,A,B,C,D,E,rfl⟩:=uU hR.a;have b7:Y (yf s.data.toList (Zd (Ze #[Zc #[I Zg u,I Zg y,I Zg z,I Zg A,I Zg B,I Zg C,I Zg D,I Zg E],Za Zl]))) :=
     X (Zj ⟨by unfold jL;rw[J.a];simp[F],_,_,_,_,_,_,_,_,R⟩)
    have b1:((b.length:Int)==8)=Zl:=WX;clear hR J F;go_wp2;refine ZS (v:=Ze #[Zc #[I Zg u,I Zg y,I Zg z,I Zg A,I Zg B,I Zg C,I Zg D,I Zg E],Za Zl]) Vt R ⟨b7.a,?_⟩;exact OC
theorem DH:(prog.info? 9).map (λi=>(i.zero,i.size,i.bytes))=S (S (Zb ⟨#[]⟩),1,16):=WR
def yt(base:Nat)(v:I7)(xs:I3)(w:I6):Prop:=w.ownsRow base 9 1 v xs.length (xs.map Value.string)
theorem qjd{l:I3}(h:yt base v l w):∀k,v.ownBlock=S k->base<=k:=by exact O8
def jc(c:UInt8)(out:I3):I1:=(out.map λx=>x.data.toList++[c]).flatten
theorem BZ(c:UInt8)(out:I3)(x:I4):jc c (out++[x])=jc c out++(x.data.toList++[c]):=by unfold jc;simp
theorem gS(c:UInt8):∀(out:I3)(x:I4),Lib.join ((out++[x]).map (·.data.toList)) [c]=jc c out++x.data.toList
 | [],x=>by simp[jc,Lib.join_one]
 | [y],x=>by simp[jc,ve,Lib.join_one]
 | y :: z :: r,x=>by
  have a:=gS c (z :: r) x;simp only[YA,YM]at a |-;rw[ve,a];simp[jc]
theorem qkq(s:I4)(f i:Nat):(s.extract f i).data.toList=(s.data.toList.take i).drop f:=by rw[ByteArray.data_extract,Array.toList_extract,List.extract_eq_take_drop,List.drop_take]
theorem bI{l:I1}(h:f<=i):l.take f++(l.take i).drop f=l.take i:=by
 conv=>rhs;rw[<-XQ f (l.take i)]
 rw[List.take_take,Nat.min_eq_left h]
def Cut(s:I4)(c:UInt8)(i f:Nat)(out:I3):Prop :=
 (∀x∈out,c∉x.data.toList)/\out.length<=i/\((i<=s.size/\f<=i/\jc c out=s.data.toList.take f/\∀j,f<=j->j<i->s.data.toList[j]?≠S c)\/(i=s.size+1/\out≠[]/\Lib.join (out.map (·.data.toList)) [c]=s.data.toList))
theorem aL{s:I4}{c:UInt8}(h:∀j,f<=j->j<i->s.data.toList[j]?≠S c):c∉(s.extract f i).data.toList:=by
 rw[qkq s f i];intro b;obtain⟨j,a⟩:=List.mem_iff_getElem?.1 b;rw[Wr,Yv]at a;split at a
 .exact h (f+j) O ‹_› a
 .cases a
theorem Cut.skip{s:I4}{c:UInt8}{out:I3}(h:Cut s c i f out)(n:i<s.size)(l:s[i]≠c):Cut s c (i+1) f out:=by
 obtain⟨k,q,⟨b,p,d,g⟩|⟨b,_⟩⟩:=h
 .refine⟨k,O,Zi ⟨O,O,d,λj a o=>?_⟩⟩;by_cases e:j=i
  .subst e;rw[cL s j n];intro m;exact l (qP m)
  .exact g j a O
 .omega
theorem Cut.cut{s:I4}{c:UInt8}{out:I3}(h:Cut s c i f out)(m:i<s.size)(l:s[i]=c):Cut s c (i+1) (i+1) (out++[s.extract f i]):=by
 obtain⟨k,p,⟨b,d,e,g⟩|⟨b,_⟩⟩:=h
 .refine⟨λx a=>?_,WX,Zi ⟨O,Zy,?_,λj n o=>O⟩⟩
  .obtain a|a:=Yi.1 a
   .exact k x a
   .rw[qT.1 a];exact aL g
  .rw[BZ,e,qkq s f i,<-qS,bI d,xi s i m,l]
 .omega
theorem Cut.last{s:I4}{c:UInt8}{out:I3}(h:Cut s c s.size f out):Cut s c (s.size+1) (s.size+1) (out++[s.extract f s.size]):=by
 obtain⟨i,j,⟨b,d,e,g⟩|⟨b,_⟩⟩:=h
 .refine⟨λx a=>?_,WX,Zj ⟨R,WU,?_⟩⟩
  .obtain a|a:=Yi.1 a
   .exact i x a
   .rw[qT.1 a];exact aL g
  .rw[gS,e,qkq s f s.size,bI d];exact Yk WU
 .omega
theorem Cut.from_le{s:I4}{c:UInt8}{out:I3}(h:Cut s c i f out)(d:i<=s.size):f<=i:=by
 obtain⟨_,_,⟨_,a,_⟩|⟨b,_⟩⟩:=h
 .exact a
 .omega
theorem qvl(s:I4)(hs:s.size<4294967281)(c:UInt8)(w:I6):Calls prog 71 #[Zb s,I Zg c.toNat] w λe w'=>∃v C,e=Zd v/\yt w.heap.size v C w'/\(∀x∈C,c∉x.data.toList)/\C≠[]/\Lib.join (C.map (·.data.toList)) [c]=s.data.toList/\Gr w w':=by
 obtain⟨a0,a2,z,A,B⟩:=We DH;have p:=X a2;clear a2;go_enter func71,ntmps71;go_wp2;go_loopg [5,6,7] (s.size+1) (λg v Q W wr=>∃k f:Nat,k+g=s.size+1/\W=I L k/\Q=I L f/\∃out:I3,Cut s c k f out/\yt w.heap.size v out wr/\Gr w wr)
 case atStart=>exact⟨0,0,O,R,R,[],⟨λx V=>(by cases V),Zy,Zi ⟨Nat.zero_le _,Zy,by simp[jc],λj a8 a3=>absurd a3 (Yy j)⟩⟩,⟨R,Zi ⟨R,R⟩⟩,ZO⟩
 case round=>
  obtain⟨k,f,k1,rfl,rfl,out,hcut,y,n⟩:=hrel;have M:=hcut.2.1;have T:w.heap.size<=wr.heap.size:=ZR n;have d:=X hcut;have b:=X y;have m:=X n;clear y n;by_cases q:k<=s.size
  .have a6:=hcut.from_le q;clear hcut;by_cases r:k<s.size
   .by_cases o:s[k]=c
    .have a:=X (d.a.cut r o);subst o;have H:((k:Int)==(s.size:Int))=Zl:=Vp;go_wp2_with(at_builtin;refine Xv _ R (.tmp 25) (.tmp 30) 43 rfl w.heap.size 9 a0 (Zb ⟨#[]⟩) 1 16 underlying43 p.a z A B R WW u5 out.length (out.map Value.string) R (b.a.alloc _) ⟨wr.heap.size,0,N⟩ 1 1 [Zb (s.extract f k)] R R (Wp _ _ _) Vi Vk O WX ?_;intro v' a4 l i u);go_roundg (gk-1)
     case measure=>omega
     case rel=>
      refine⟨k+1,k+1,O,Vg,Vg,out++[s.extract f k],a.a,?_,?_⟩
      .unfold yt;rw[Ys,qZ];exact l
      .exact(m.a.alloc _ _).grown i WX (qjd b.a)
    .have a:=X (d.a.skip r o);have H:((k:Int)==(s.size:Int))=Zl:=Vp;have a7:((s[k].toNat:Int)==(c.toNat:Int))=Zl:=by rw[qM];intro h;exact o (q6.1 O)
     clear o;go_wp2;go_roundg (gk-1)
     case measure=>omega
     case rel=>exact⟨k+1,f,O,Vg,R,out,a.a,b.a,m.a⟩
   .have P:k=s.size:=O;subst P;have a:=X (d.a.last);go_wp2_with(at_builtin;refine Xv _ R (.tmp 25) (.tmp 30) 43 rfl w.heap.size 9 a0 (Zb ⟨#[]⟩) 1 16 underlying43 p.a z A B R WW u5 out.length (out.map Value.string) R (b.a.alloc _) ⟨wr.heap.size,0,N⟩ 1 1 [Zb (s.extract f s.size)] R R (Wp _ _ _) Vi Vk O WX ?_;intro v' a4 l i u);go_roundg (gk-1)
    case measure=>omega
    case rel=>
     refine⟨s.size+1,s.size+1,O,Vg,Vg,out++[s.extract f s.size],a.a,?_,?_⟩
     .unfold yt;rw[Ys,qZ];exact l
     .exact(m.a.alloc _ _).grown i WX (qjd b.a)
  .obtain⟨a1,a5,⟨D,_⟩|⟨D,J,K⟩⟩:=hcut
   .exact absurd D q
   .subst D;have E:=X a1;have F:=X J;have G:=X K;clear a1 J K;go_wp2;go_ret;exact⟨u5,out,R,b.a,E.a,F.a,G.a,m.a⟩
theorem qz9(c:UInt8):∀(k:Nat)(x:I1) (r:List (I1)),(∀y∈x :: r,c∉y)->k<r.length->(Lib.splitK [c] 0 k (Lib.join (x :: r) [c])).length=k+1
 | 0,_,_,_,_=>rfl
 | k+1,x,[],_,hk=>by simp at hk
 | k+1,x,y :: r,h,hk=>by
  rw[ve,qS];show(Lib.splitK [c] 0 (k+1) (x++c :: Lib.join (y :: r) [c])).length=_;rw[qj6 c k x _ (h x WU),Yq,qz9 c k y r (λz a=>h z (by simp at a |-;right;exact a)) (by simp at hk;omega)]
theorem aK:∀{a b:I3},a.map (·.data.toList)=b.map (·.data.toList)->a=b
 | [],[],_=>rfl
 | [],y :: b,h=>by simp at h
 | x :: a,[],h=>by simp at h
 | x :: a,y :: b,h=>by
  simp only[YM,X7]at h;have e:x=y:=by cases x;cases y;simpa using h.1
  rw[e,aK h.2]
theorem dQ(c:UInt8)(n:Nat)(l:1<=n)(s:I4)(a:I3)(h:∀x∈a,c∉x.data.toList)(j:a≠[])(e:Lib.join (a.map (·.data.toList)) [c]=s.data.toList) :
 (a.length<=n->xL c n s=a)/\(n<a.length->(xL c n s).length=n):=by
 obtain⟨x,r,rfl⟩:=XI j;have b:∀y∈x.data.toList :: r.map (·.data.toList),c∉y:=λy g=>by
  obtain rfl|g:=Yj.1 g
  .exact h x WU
  .obtain⟨z,k,rfl⟩:=YL.1 g;exact h z (by simp[k])
 rw[YM]at e;constructor
 .intro f;apply aK;rw[qv4 c n x.data.toList (r.map (·.data.toList)) b Uq s e.symm,YM]
 .intro f;have d:=qzr [c] x.data.toList (r.map (·.data.toList));rw[e]at d;simp only[YD,Yq,XN,Z2,Nat.mul_one,ZX,YY]at d f;have i:min n (s.size+1)-1=n-1:=O;have:=Xn List.length (qjc c n s);rw[YD,i,<-e,qz9 c (n-1) _ _ b WX]at this;omega
theorem qvk(c:UInt8)(n:Nat)(j:1<=n)(s:I4)(d:I3)(e:∀x∈d,c∉x.data.toList)(f:d≠[])(g:Lib.join (d.map (·.data.toList)) [c]=s.data.toList)(m:Nat)(k:m<n) :
 (d.length=m->xL c n s=d)/\(d.length≠m->(xL c n s).length≠m):=by
 obtain⟨a,b⟩:=dQ c n j s d e f g;refine⟨λh=>a O,λh=>?_⟩;by_cases i:d.length<=n
 .rw[a i];exact h
 .rw[b O];omega
def kY(c:UInt8):Int:=Lib.indexByte [75,81,107,113] c
def j8:List UInt8->Int->Bool
 | [],_=>Zk
 | c :: r,last=>Zm (last<kY c)&&j8 r (kY c)
theorem fL:∀c:UInt8,-1<=kY c/\kY c<=3:=vg WS
theorem Az:∀c:UInt8,∀i:Nat,i<4->(kY c=(i:Int)↔c=vn i):=by have:∀i:Fin 4,∀c:UInt8,(kY c=((i.val:Nat):Int)↔c=vn i.val):=λi=>vg (by revert i;decide +kernel);intro c i a;exact this ⟨i,a⟩ c
theorem bC(c:UInt8)(r:I1):Lib.trimPrefix (c :: r) [c]=r:=by simp[Lib.trimPrefix,Lib.hasPrefix]
theorem qj2{c:UInt8}{l:I1}(h:l.head?≠S c):Lib.trimPrefix l [c]=l:=by
 cases l with
 | nil=>simp[Lib.trimPrefix,Lib.hasPrefix]
 | cons b r =>
  have:b≠c:=λe=>h Tg;simp[Lib.trimPrefix,Lib.hasPrefix,Ne.symm this]
theorem tB(c:UInt8)(l:I1):Lib.hasPrefix l [c]=Zm (l.head?=S c):=by
 cases l with
 | nil=>simp[Lib.hasPrefix]
 | cons b r =>
  by_cases h:b=c
  .simp[Lib.hasPrefix,h]
  .have a:¬ c=b:=λe=>h e.symm;simp[Lib.hasPrefix,List.isPrefixOf,h,a]
theorem eS{m:I1}(a:i<4):j8 m ((i:Int)-1)=j8 (Lib.trimPrefix m [vn i]) (i:Int):=by
 cases m with
 | nil=>rw[qj2 WU];rfl
 | cons b r =>
  by_cases h:b=vn i
  .subst h;rw[bC];have e:=(Az (vn i) i a).2 R;show(Zm ((i:Int)-1<kY (vn i))&&j8 r (kY (vn i)))=_;rw[e,qJ O];rfl
  .rw[qj2 Vq];have d:kY b≠(i:Int):=λe=>h ((Az b i a).1 e);show(Zm ((i:Int)-1<kY b)&&j8 r (kY b))=(Zm ((i:Int)<kY b)&&j8 r (kY b));congr 1;apply XB.2;omega
theorem mE{m:I1}:∀{last:Int},j8 m last=Zk->∀c∈m,last<kY c:=by
 induction m with
 | nil=>intro last _ c a;cases a
 | cons b r ih =>
  intro last h c a;have d:Zm (last<kY b)=Zk/\j8 r (kY b)=Zk:=by have:(Zm (last<kY b)&&j8 r (kY b))=Zk:=h;simpa using this
  have e:=q8 d.1;obtain rfl|a:=Yj.1 a
  .exact e
  .have:=ih d.2 c a;omega
theorem qjf(l:I1):∀i,i<=4->j8 (jN l i) ((i:Int)-1)=j8 l (-1)
 | 0,_=>rfl
 | i+1,hi=>by
  rw[<-qjf l i O,eS (m:=jN l i) (i:=i) O];show j8 (Lib.trimPrefix (jN l i) [vn i]) (((i+1:Nat):Int)-1)=_;congr 1;omega
theorem Ap(m:I1):j8 m 3=m.isEmpty:=by
 cases m with
 | nil=>rfl
 | cons b r =>
  have:=fL b;show(Zm ((3:Int)<kY b)&&j8 r (kY b))=Zl;rw[qE O];rfl
theorem eU(l:I1):(jN l 4).isEmpty=j8 l (-1):=by rw[<-qjf l 4 O,<-Ap];rfl
theorem bV(l:I1)(k:Nat)(d:k<4):∀i,i<=k->(vn k∈jN l i↔vn k∈l)
 | 0,_=>Iff.rfl
 | i+1,hi=>by
  rw[<-bV l k d i O];show vn k∈Lib.trimPrefix (jN l i) [vn i]↔_;by_cases h:(jN l i).head?=S (vn i)
  .obtain⟨r,f⟩:∃r,jN l i=vn i :: r:=by
    cases e:jN l i with
    | nil=>rw[e]at h;simp at h
    | cons b r=>rw[e]at h;simp at h;exact⟨r,by rw[h]⟩
   rw[f,bC];have a:vn k≠vn i:=λe=>by have g:=(Az (vn k) k d).2 R;have j:=(Az (vn k) i O).2 e;omega
   simp[a]
  .rw[qj2 h]
theorem sb(l:I1)(h:j8 l (-1)=Zk)(i:Nat)(m:i<4):zW l i=Zm (vn i∈l):=by
 unfold zW;rw[tB];apply XB.2;rw[<-bV l i m i Zy];have g:=qjf l i O;rw[h]at g;constructor
 .intro a;cases e:jN l i with
  | nil=>rw[e]at a;simp at a
  | cons b r=>rw[e]at a;simp at a;rw[a];simp
 .intro d;cases e:jN l i with
  | nil=>rw[e]at d;cases d
  | cons b r =>
   rw[e]at d g;by_cases k:b=vn i
   .rw[k];rfl
   .obtain f|f:=Yj.1 d
    .exact absurd f.symm k
    .have j:Zm ((i:Int)-1<kY b)=Zk/\j8 r (kY b)=Zk:=by have:(Zm ((i:Int)-1<kY b)&&j8 r (kY b))=Zk:=g;simpa using this
     have o:=q8 j.1;have n:=mE j.2 _ f;rw[(Az (vn i) i m).2 R]at n;omega
noncomputable def gq:I0:=put 69 #[I L (-1)] zeroCells70
theorem CZ:prog.built 70 [(3,I L (-1))]=S gq:=by rw[wD,xv _ _ 3 69 1 _ _ R R (by rw[xF];decide)];rfl
theorem AE:zeroCells70.toList.take 64=List.replicate 64 (I Zg 0):=WR
theorem AK:zeroCells70[65]?=S (Za Zl):=WR
theorem AJ:zeroCells70[66]?=S (Za Zl):=WR
theorem AI:zeroCells70[67]?=S (Za Zl):=WR
theorem AG:zeroCells70[68]?=S (Za Zl):=WR
theorem rI:jE (λ_=>0) Zl (λ_=>Zl) 0 0 0 zeroCells70:=by
 refine⟨xF,λi a=>?_,WR,λi a=>?_,WR,WR,WR⟩
 .have h:=Xn (λl=>l[i]?) AE;simp only[Yv,qI a,List.getElem?_replicate,qO]at h;rw[h];rfl
 .have:i=0\/i=1\/i=2\/i=3:=O;obtain rfl|rfl|rfl|rfl:=this
  .exact AK
  .exact AJ
  .exact AI
  .exact AG
section
variable {z:I2}{wh:Bool}{f:I5}{b h g:Int}{PA:I0}
theorem qz(h:i≠j):(PA.setIfInBounds i v)[j]?=PA[j]?:=by rw[Yu,qF h]
theorem FG(h:i<PA.size):(PA.setIfInBounds i v)[i]?=S v:=by rw[Yu,qI R,qI h]
theorem jE.setSq(r:jE z wh f b h g PA)(i:Nat)(d:i<64)(c:UInt8):jE (λj=>if j=i then c else z j) wh f b h g (PA.setIfInBounds i (I Zg c.toNat)):=by
 refine⟨Vx,λj a=>?_,?_,λj a=>?_,?_,?_,?_⟩
 .by_cases e:j=i
  .subst e;rw[FG Vw,qI R]
  .rw[qz (λh=>e h.symm),qF e];exact r.sq j a
 .rw[qz O];exact r.wh
 .rw[qz O];exact r.c j a
 .rw[qz O];exact r.b
 .rw[qz O];exact r.h
 .rw[qz O];exact r.g
theorem jE.setWh(r:jE z wh f b h g PA)(x:Bool):jE z x f b h g (PA.setIfInBounds 64 (Za x)):=by
 refine⟨Vx,λj a=>?_,FG Vw,λj a=>?_,?_,?_,?_⟩
 .exact IH
 .rw[qz O];exact r.c j a
 .rw[qz O];exact r.b
 .rw[qz O];exact r.h
 .rw[qz O];exact r.g
theorem jE.setC(r:jE z wh f b h g PA)(i:Nat)(d:i<4)(x:Bool):jE z wh (λj=>if j=i then x else f j) b h g (PA.setIfInBounds (65+i) (Za x)):=by
 refine⟨Vx,λj a=>?_,?_,λj a=>?_,?_,?_,?_⟩
 .exact IH
 .rw[qz O];exact r.wh
 .by_cases e:j=i
  .subst e;rw[FG Vw,qI R]
  .rw[qz O,qF e];exact r.c j a
 .rw[qz O];exact r.b
 .rw[qz O];exact r.h
 .rw[qz O];exact r.g
theorem jE.setB(r:jE z wh f b h g PA)(x:Int):jE z wh f x h g (PA.setIfInBounds 69 (I L x)):=by
 refine⟨Vx,λj a=>?_,?_,λj a=>?_,FG Vw,?_,?_⟩
 .exact IH
 .rw[qz O];exact r.wh
 .rw[qz O];exact r.c j a
 .rw[qz O];exact r.h
 .rw[qz O];exact r.g
theorem jE.setH(r:jE z wh f b h g PA)(x:Int):jE z wh f b x g (PA.setIfInBounds 70 (I L x)):=by
 refine⟨Vx,λj a=>?_,?_,λj a=>?_,?_,FG Vw,?_⟩
 .exact IH
 .rw[qz O];exact r.wh
 .rw[qz O];exact r.c j a
 .rw[qz O];exact r.b
 .rw[qz O];exact r.g
theorem jE.setG(r:jE z wh f b h g PA)(x:Int):jE z wh f b h x (PA.setIfInBounds 71 (I L x)):=by
 refine⟨Vx,λj a=>?_,?_,λj a=>?_,?_,?_,FG Vw⟩
 .exact IH
 .rw[qz O];exact r.wh
 .rw[qz O];exact r.c j a
 .rw[qz O];exact r.b
 .rw[qz O];exact r.h
end
theorem pr:jE (λ_=>0) Zl (λ_=>Zl) (-1) 0 0 gq:=by
 have e:gq=zeroCells70.setIfInBounds 69 (I L (-1)):=by
  apply YV;intro i;unfold gq;rw[(zo 69 #[I L (-1)] zeroCells70).2 i (by rw[xF];decide),Yu];by_cases h:i=69
  .subst h;rw[qI ⟨Zy,WW⟩,qI R,qI (by rw[xF];decide)];rfl
  .rw[qF WX,qF O]
 rw[e];exact rI.setB (-1)
theorem C1{a:I3}(h:yt base v a w)(e:a≠[]):∃b cap,v=Zq (S ⟨b,0,N⟩) a.length cap/\base<=b/\a.length<=cap/\Wd b a w:=by
 obtain⟨_,d⟩|⟨g,cap,cur,rfl,k,f,d,n,o,m⟩:=h.2
 .exact absurd (Yz.1 d) e
 .refine⟨g,cap,R,k,d,(qB.1 f).1,λj i=>?_⟩;rw[Zs f,<-qO];have:=Xn (λl=>l[j]?) m;simp only[Yv,Nat.mul_one,qI i,YN,Yf i]at this;exact this
theorem Ag{b:Nat}{cs:I0}{t:TypeId}(h:W.heap[b]?=S (Z cs t)):(W.setCell ⟨b,i,N⟩ v).heap[b]?=S (Z (cs.setIfInBounds i v) t):=by have d:=(qB.1 h).1;have a:W.heap[b]=Z cs t:=(qB.1 h).2;exact Iy
structure Fo(w:I6)(bp:Nat)(PA:I0)(cur:I6):Prop where
 res:cur.heap[w.heap.size]?=S (Z zeroCells70 70)
 p:cur.heap[bp]?=S (Z PA 70)
 ne:w.heap.size<bp
 lp:bp<cur.heap.size
 gr:Gr w cur
theorem Fo.next{cur:I6}{bp:Nat}(h:Fo w bp PA cur)(g:Gr cur a):Fo w bp PA a :=
 ⟨by rw[Zz g (Nat.lt_trans h.ne h.lp)];exact h.res,by rw[Zz g h.lp];exact h.p,h.ne,qN h.lp (ZR g),Gr.trans h.gr g⟩
theorem Fo.put{cur:I6}{bp:Nat}(h:Fo w bp PA cur)(i:Nat)(v:I7):Fo w bp (PA.setIfInBounds i v) (cur.setCell ⟨bp,i,N⟩ v) :=
 ⟨by rw[Yg cur ⟨bp,i,N⟩ v w.heap.size (Nat.ne_of_lt h.ne)];exact h.res,Ag h.p,h.ne,by rw[World.size_setCell];exact h.lp,Yr h.gr (Nat.le_of_lt h.ne) v⟩
theorem Fo.cell{cur:I6}{bp:Nat}(h:Fo w bp PA cur)(a:PA[i]?=S v):cur.cell? ⟨bp,i,N⟩=S v:=by rw[Zs h.p];exact a
theorem Fo.soft{cur:I6}{bp:Nat}(h:Fo w bp PA cur)(i:Nat):cur.frozen? ⟨bp,i,N⟩=Zl:=by unfold World.frozen?;rw[h.p];simp
def kT(s:I4)(e:Ending):Prop :=
 (∃p,xG s=S p/\e=Zd (Ze #[Zc (jV p),Za Zk]))\/(xG s=N/\∃A:I0,A.size=72/\A.all (·.oneCell')=Zk/\e=Zd (Ze #[Zc A,Za Zl]))
theorem rV{s:I4}(h:(xL 32 7 s).length≠6):xG s=N:=by
 unfold xG;split
 .rename_i a;rw[a]at h;exact absurd R h
 .rfl
theorem rW{s a b d e f g:I4}(h:xL 32 7 s=[a,b,d,e,f,g]):xG s=Ac a b d e f g:=by unfold xG;rw[h]
structure HN(w:I6)(bp:Nat)(PA:I0)(cur:I6)(z:I2)(wt:Bool)(ys:I3)(k:Nat)(rs:List (List Int)):Prop where
 fo:Fo w bp PA cur
 row:jE z wt (λ_=>Zl) (-1) 0 0 PA
 rk:jK (ys.take k)=S rs
 at':∀i f,i<k->f<8->∃r,rs[i]?=S r/\r[f]?=S ((z (8*(7-i)+f)).toNat:Int)
structure DR(w:I6)(bp:Nat)(PA:I0)(cur:I6)(z z':I2)(wt:Bool)(zs:I1)(k j rb:Nat)(t:TypeId):Prop where
 fo:Fo w bp PA cur
 row:jE z' wt (λ_=>Zl) (-1) 0 0 PA
 rb:cur.heap[rb]?=S (Z (zs.map (λc=>Value.int Zg (c.toNat:Int))).toArray t)
 new:∀f,f<j->zs[f]?=S (z' (8*(7-k)+f))
 old:∀m,m<8*(7-k)\/8*(7-k)+8<=m->z' m=z m
theorem DR.rcell{cur:I6}{bp b:Nat}{e:I2}{wt:Bool}{a:I1}{t:TypeId}(h:DR w bp PA cur z e wt a k j b t)(d:j<a.length):cur.cell? ⟨b,j,N⟩=S (I Zg (a[j]).toNat):=by rw[Zs h.rb];simp[d]
theorem DR.step{cur:I6}{bp b:Nat}{d:I2}{wt:Bool}{a:I1}{t:TypeId}(h:DR w bp PA cur z d wt a k j b t)(g:j<a.length)(i:j<8)(p:k<8)(n:b≠bp):DR w bp (PA.setIfInBounds (8*(7-k)+j) (I Zg (a[j]).toNat)) (cur.setCell ⟨bp,8*(7-k)+j,N⟩ (I Zg (a[j]).toNat)) z (λm=>if m=8*(7-k)+j then a[j]else d m) wt a k (j+1) b t:=by
 refine⟨h.fo.put _ _,h.row.setSq _ O _,?_,λf o=>?_,λm l=>?_⟩
 .rw[Yg cur ⟨bp,_,N⟩ _ b n];exact h.rb
 .by_cases e:f=j
  .subst e;rw[qI R];simp[g]
  .rw[qF O];exact h.new f O
 .rw[qF O];exact h.old m l
theorem DR.done{cur:I6}{bp:Nat}{b:I0}{m:I2}{wt:Bool}{g:I1}{t:TypeId}{d:I3}{rs:List (List Int)}(h:DR w bp b a z m wt g k 8 x t)(j:HN w bp PA cur z wt d k rs)(p:k<d.length)(q:k<8)(v:jL d[k].data.toList=S (nI g)):∃rs',HN w bp b a m wt d (k+1) rs':=by
 have u:rs.length=k:=by have:=(jg _ _ j.rk).2;rw[Xt]at this;omega
 refine⟨rs++[nI g],h.fo,h.row,?_,λi f y l=>?_⟩
 .rw[Yd p,uJ,j.rk,v]
 .by_cases e:i=k
  .subst e;refine⟨nI g,by rw[<-u];simp,?_⟩;unfold nI;rw[YN,h.new f l];rfl
  .obtain⟨r,n,o⟩:=j.at' i f O l;refine⟨r,by rw[List.getElem?_append_left O];exact n,?_⟩;rw[o,h.old (8*(7-i)+f) O]
theorem nN{x:I4}(h:(xL 47 9 x).length≠8):(j7 x).isSome=Zl:=by unfold j7;rw[qF h];rfl
theorem mJ{a:I3}(b:k<a.length)(d:jL a[k].data.toList=N):jK a=N:=by
 induction a generalizing k with
 | nil=>exact absurd b (Yy _)
 | cons y r ih =>
  cases k with
  | zero=>unfold jK;rw[show jL y.data.toList=N from d]
  | succ k =>
   have:=ih (k:=k) VE VG;unfold jK;rw[this];cases jL y.data.toList<;>rfl
theorem nP{x:I4}{a:I3}(h:xL 47 9 x=a)(b:k<a.length)(d:jL a[k].data.toList=N):(j7 x).isSome=Zl:=by
 subst h;unfold j7;split
 .rw[mJ b d];rfl
 .rfl
def yR(l:I1):Nat->Int
 | 0=>-1
 | k+1=>match l[k]? with
  | some c=>kY c
  | none=>-1
theorem lF(l:I1)(k:Nat)(c:UInt8)(h:l[k]?=S c):yR l (k+1)=kY c:=by show(match l[k]? with|some c=>kY c|none=>-1)=kY c;rw[h]
theorem CJ(l:I1)(k:Nat)(c:UInt8)(h:l[k]?=S c):l.drop k=c :: l.drop (k+1):=by obtain⟨a,rfl⟩:=Z5.1 h;exact XP a
theorem rO(l:I1)(k:Nat)(c:UInt8)(h:l[k]?=S c):j8 (l.drop k) (yR l k)=(Zm (yR l k<kY c)&&j8 (l.drop (k+1)) (yR l (k+1))):=by rw[CJ l k c h,lF l k c h];rfl
theorem CO{c:UInt8}(h:kY c<0)(i:Nat)(a:i<4):c≠vn i:=λe=>by
 have:=(Az c i a).2 e;omega
theorem CN{c:UInt8}(h:0<=kY c):∃j:Nat,j<4/\kY c=(j:Int)/\c=vn j:=by have:=fL c;obtain⟨j,b⟩:∃j:Nat,kY c=(j:Int):=⟨(kY c).toNat,O⟩;have a:j<4:=O;exact⟨j,a,b,(Az c j a).1 b⟩
theorem qv6(l:I1)(k:Nat)(c d:UInt8)(h:l[k]?=S c):d∈l.take (k+1)↔d∈l.take k\/d=c:=by obtain⟨a,rfl⟩:=Z5.1 h;rw[Yd a,Yi,qT]
def yq(l:I1)(k:Nat)(i:Nat):Bool:=Zm (vn i∈l.take k)
theorem Am{f:I5}{g:Int}{a:I0}(r:jE z wh f b h g PA)(q:jE z wh f b h g a):PA=a:=by
 apply YV;intro i;by_cases d:i<64
 .rw[r.sq i d,q.sq i d]
 .by_cases e:i<72
  .have:i=64\/i=65+0\/i=65+1\/i=65+2\/i=65+3\/i=69\/i=70\/i=71:=O;obtain rfl|rfl|rfl|rfl|rfl|rfl|rfl|rfl:=this
   .rw[r.wh,q.wh]
   .rw[r.c 0 O,q.c 0 O]
   .rw[r.c 1 O,q.c 1 O]
   .rw[r.c 2 O,q.c 2 O]
   .rw[r.c 3 O,q.c 3 O]
   .rw[r.b,q.b]
   .rw[r.h,q.h]
   .rw[r.g,q.g]
  .rw[Z6 Vw,Z6 (by rw[q.size];omega)]
theorem jE.casNo{g:Int}{l:I1}{c:UInt8}(r:jE z wh (yq l k) b h g PA)(a:l[k]?=S c)(e:kY c<0):jE z wh (yq l (k+1)) b h g PA :=
 r.congr (λ_ _=>R) (λi d=>by
  unfold yq;apply XB.2;rw[qv6 l k c _ a];have:=CO e i d;constructor
  .exact Zi
  .rintro(h|h)
   .exact h
   .exact absurd h.symm this)
theorem jE.casYes{g:Int}{l:I1}(r:jE z wh (yq l k) b h g PA)(d:j<4)(a:l[k]?=S (vn j)):jE z wh (yq l (k+1)) b h g (PA.setIfInBounds (65+j) (Za Zk)) :=
 (r.setC j d Zk).congr (λ_ _=>R) (λi f=>by
  unfold yq;by_cases e:i=j
  .subst e;rw[qI R,eq_comm,qG,qv6 l k _ _ a];exact Zj R
  .rw[qF e];apply XB.2;rw[qv6 l k _ _ a];have:vn i≠vn j:=λh=>by have m:=(Az (vn i) i f).2 R;have n:=(Az (vn i) j d).2 h;omega
   constructor
   .exact Zi
   .rintro(h|h)
    .exact h
    .exact absurd h this)
theorem DJ:∀(d:List (List Int)),yw d->∀i f,f<8->d.flatten[8*i+f]?=(d[i]?).bind (·[f]?)
 | [],_,i,f,_=>by simp
 | r :: t,h,i,f,hf=>by
  have a:r.length=8:=h r WU;cases i with
  | zero=>rw[List.flatten_cons,List.getElem?_append_left O];simp
  | succ i =>
   rw[List.flatten_cons,List.getElem?_append_right O,a,show 8*(i+1)+f-8=8*i+f from O,DJ t (λx b=>h x (by simp[b])) i f hf];simp
theorem HN.board{cur:I6}{bp:Nat}{wt:Bool}{e:I3}{rs:List (List Int)}{x:I4}(h:HN w bp PA cur z wt e 8 rs)(n:xL 47 9 x=e)(g:e.length=8) :
 ∃b,j7 x=S b/\∀i,i<64->b[i]?=S ((z i).toNat:Int):=by have a:=h.rk;rw[Yk O]at a;obtain⟨k,l⟩:=jg _ _ a;refine⟨rs.reverse.flatten,by unfold j7;rw[n,qI g,a],λi o=>?_⟩;have d:=DJ rs.reverse (λr m=>k r (List.mem_reverse.1 m)) (i/8) (i%8) O;rw[show 8*(i/8)+i%8=i from O]at d;rw[d,List.getElem?_reverse O,l,g];obtain⟨r,j,f⟩:=h.at' (7-i/8) (i%8) O O;rw[show 8-1-i/8=7-i/8 from O,j];rw[show 8*(7-(7-i/8))+i%8=i from O]at f;exact f
theorem cF(l:I1):vS l=if l=[45]then S (λ_=>Zl)else if !l.isEmpty&&j8 l (-1)then S (zW l)else N:=by unfold vS;rw[eU]
theorem ti{l:I1}(a:l≠[45])(b:j8 l (-1)=Zl):(vS l).isSome=Zl:=by rw[cF,qF a,b];simp
theorem tf:(vS []).isSome=Zl:=by rw[cF];rfl
theorem nD{l:I1}(f:l≠[])(h:l=[45]\/j8 l (-1)=Zk):∃c,vS l=S c/\∀i,i<4->yq l l.length i=c i:=by
 rw[cF];by_cases b:l=[45]
 .subst b;refine⟨_,R,λi e=>?_⟩;have:i=0\/i=1\/i=2\/i=3:=O;exact O1
 .have d:=h.resolve_left b;rw[qF b,d];refine⟨zW l,by cases l with|nil=>exact absurd rfl f|cons a r=>rfl,λi e=>?_⟩;rw[sb l d i e];unfold yq;rw[XA]
theorem bn{l:I1}(h:0<=kV l):∃n:Nat,vR l=S n/\kV l=(n:Int):=by grind[kV,vR]
theorem tG{s m n a o j k:I4}{wt:Bool}(F:xG s=Ac m n a o j k)(D:∃b,j7 m=S b/\∀i,i<64->b[i]?=S ((z i).toNat:Int))(G:kO n=S wt)
 (x:a.data.toList≠[]) (E:a.data.toList=[45]\/j8 a.data.toList (-1)=Zk) (d:v8 o=S b) (y:0<=kV j.data.toList) (A:0<=kV k.data.toList)
 (row:jE z wt (yq a.data.toList a.data.toList.length) b (kV j.data.toList) (kV k.data.toList) PA):∃p,xG s=S p/\PA=jV p:=by
 obtain⟨B,C,H⟩:=D;obtain⟨c,e,f⟩:=nD x E;obtain⟨M,r,v⟩:=bn y;obtain⟨J,u,w⟩:=bn A;rw[v,w]at row;have h:xG s=S ⟨B,wt,c,b,(M:Int),(J:Int)⟩:=by rw[F];unfold Ac;rw[C,G,e,d,r,u]
 refine⟨_,h,?_⟩;have l:=jo h;refine Am (row.congr (λi g=>?_) f) l;have P:=l.sq i g;obtain⟨U,u1,u2,_⟩:=FM s _ h;obtain⟨K,q⟩:=qzx u1 u2;have:=q i g;rw[Xu,YN,H i g]at this;simp only[Option.map_some,Xh,Value.int.injEq,true_and]at this;exact q6.1 O
theorem iw{l:I1}(h:¬ 0<=kV l):(vR l).isSome=Zl:=by grind[kV,vR]
def HI(bp gw:Nat)(PA:I0)(x:I4)(h g:Int)(w:I6):Prop:=zJ bp PA w/\w.cell? ⟨gw,2,N⟩=S (Zb x)/\w.cell? ⟨bp,70,N⟩=S (I L h)/\w.cell? ⟨bp,71,N⟩=S (I L g)
theorem Et{x:I4}(h:x.toList≠[45])(a:dJ x=b):if 0<=b then v8 x=S b else(v8 x).isSome=Zl:=by
 subst a;unfold v8 dJ;rw[qF h];cases uX x with
 | none=>rw[qF WW];rfl
 | some n=>rw[qI (Int.natCast_nonneg n)];rfl
theorem qvf{b:Nat}{cs:I0}(h:j≠b):(W.setRow b cs).heap[j]?=W.heap[j]?:=by unfold World.setRow;show(W.heap.modify b _)[j]?=_;rw[Array.getElem?_modify,qF (λe=>h e.symm)]
theorem HI.far{bp a:Nat}{x:I4}{g:Int}{b:Nat}{cs:I0}(s:HI bp a PA x h g W)(o:b<bp)(p:a≠b):HI bp a PA x h g (W.setRow b cs):=by obtain⟨⟨e,f⟩,k,l,m⟩:=s;have d:∀i,(W.setRow b cs).cell? ⟨bp,i,N⟩=W.cell? ⟨bp,i,N⟩:=λi=>X9 (qvf (Ne.symm (Nat.ne_of_lt o)));have n:∀i,(W.setRow b cs).cell? ⟨a,i,N⟩=W.cell? ⟨a,i,N⟩:=λi=>X9 (qvf p);refine⟨⟨by rw[Xa];exact e,λj v q=>?_⟩,by rw[n];exact k,by rw[d];exact l,by rw[d];exact m⟩;rw[d];exact f j v q
theorem mZ(f t:Nat)(H:f<64)(J:t<64)(u:UInt8)(w:I6):ZL 55 #[Zc (ZJ f t u)] w (Zb (xJ (uY f t u))):=by
 obtain⟨v,b⟩:∃v:Nat->I4,Y (∀n,v n=xJ (xQ n)):=⟨λn=>xJ (xQ n),X (λ_=>R)⟩;have hN:Y (∀n:Nat,n<64->∀W,ZL 110 #[I L n] W (Zb (v n))):=X (λn h W=>by rw[b.a];exact qxo n h W);go_enter func55,ntmps55;have a:Y (xJ (uY f t u)=xJ (xQ f++xQ t)++xJ (if u=0 then[]else[u])):=X (by rw[F6];rfl);have r:(xJ (xQ f++xQ t)).size=4:=R;obtain⟨k,l⟩:∃x,Y (x=xJ (xQ f++xQ t)):=⟨_,X R⟩;have D:∀W:I6,(Op.stringOp .add (v f) (v t)).run prog W=.ok (Zb k) W:=λW=>UH;rw[<-l.a]at r a;clear l b;go_wp2_with fail;have j:Y (∀w',Gr (w.alloc (Z (ZJ f t u) 125)) w'->_):=X (λw' g=>sO g);have o:Gr w (w.alloc (Z (ZJ f t u) 125)):=Below.alloc (XL _ w) Zy _;have d:=X o;clear o;generalize w.alloc (Z (ZJ f t u) 125)=w1 at j d |-;go_region_held3 (λw'=>Gr w1 w'/\w'.cell? ⟨w.heap.size,0,N⟩=S (I L f)/\w'.cell? ⟨w.heap.size,1,N⟩=S (I L t)/\w'.cell? ⟨w.heap.size,2,N⟩=S (I Zg u.toNat)) (first|exact j.a _ ZO.drew|exact j.a _ ‹_›) (first|(go_at_call 110;refine Z0 (hN.a _ O _) λw' C=>?_;have A:=Gr.trans (vy ‹_›) C));rename_i E;obtain⟨p,c0,c1,c2⟩:=E;have q:Y (Gr w w'):=X (Gr.trans d.a p);clear j d p C A D hN;by_cases y:u=0
 .exact Ia
 .have K:((u.toNat:Int) != 0)=Zk:=qU.2 (λe=>y (q6.1 VI));have z:Y (xJ (uY f t u)=k++(⟨#[u]⟩:I4)):=X (by rw[a.a,qF y];rfl);have G:∀W:I6,(Op.stringOp .add k (⟨#[u]⟩:I4)).run prog W=.ok (Zb (k++(⟨#[u]⟩:I4))) W:=λW=>Xy W k _ (by show k.size+1<=_;rw[r];decide);have m:=qq4 (w'.alloc (Z #[I Zg u.toNat] 5)) ⟨w'.heap.size,0,N⟩ 1 [u] (by
   intro i F;rw[X2,Z2,Z8 _ _ _ _ R];have:i=0:=by simp at F;omega
   subst this;rfl)
  have B:(convert 145 9 (Zq (S ⟨w'.heap.size,0,N⟩) 1 1)).run prog (w'.alloc (Z #[I Zg u.toNat] 5))=.ok (Zb ⟨#[u]⟩) (w'.alloc (Z #[I Zg u.toNat] 5)):=m;clear a y m;go_wp2_with fail;go_ret;exact⟨by rw[z.a];rfl,Gr.alloc q.a _ _⟩
instance:Inhabited Mo:=⟨⟨(0,0,0),by decide,by decide⟩⟩
end
theorem dU{s:Nat}{e:TypeId}{d:List I7}(h:w.ownsRow base e s v n d)(g:Gr w w'):w'.ownsRow base e s v n d:=by
 refine⟨h.1,?_⟩;obtain f|⟨k,cap,cur,j,i,b,a⟩:=h.2
 .exact Zi f
 .exact Zj ⟨k,cap,cur,j,i,(ZE g b),a⟩
def ud(xs:List Mv):I3:=xs.map λx=>xJ (yJ x)
theorem qxz{A r gi:Nat}{b:List Mv}(Q:PA.size=72)(m:iM r gi PA b w) :
 Calls prog 36 #[Zc (zG A r),Zc PA] w λe w'=>∃v,e=Zd v/\yt w.heap.size v (ud (jI b)) w'/\Gr w w':=by
 obtain⟨i0,hi,a2,a3,a4⟩:=We DH;have a0:=X hi;clear hi;have b2:=X m;clear m;have d:Ig w r PA ((w.alloc (Z (zG A r) 74)).alloc (Z PA 70)):=by obtain⟨e1,e2⟩:=x6 w (Z (zG A r) 74) (Z PA 70);exact⟨by rw[Zs e1];rfl,e2,ZN.al⟩
 have J:((w.alloc (Z (zG A r) 74)).alloc (Z PA 70)).cell? ⟨w.heap.size,0,N⟩=S (.func (.func A) #[] #[]):=by obtain⟨e1,e2⟩:=x6 w (Z (zG A r) 74) (Z PA 70);rw[Zs e1];rfl
 simp only[zG]at |-;go_enter func36,ntmps36;go_upto_region 1 with fail;show Code.wp _ _ _ _ ((w.alloc (Z (zG A r) 74)).alloc (Z PA 70));generalize ((w.alloc (Z (zG A r) 74)).alloc (Z PA 70))=wA at d J |-;have c1:=d.q;have b5:=d.pa;have b3:=X d.gr;have G:Y (Calls prog 49 #[Zc #[.func (.func A) #[] #[],.func (.func r) #[] #[]],Zc PA] wA λe w'=>∃v,e=Zd v/\w'.ownsRow wA.heap.size 87 3 v b.length (vO (jI b))/\Gr wA w'):=X (qko Q (b2.a.gr d.gr));have B:∀x∈jI b,bi x:=λx T=>b2.a.ok x ((xq b).mem_iff.1 T);have V:(jI b).length=b.length:=qj7 b;have a6:=b2.a.len;obtain⟨z,b6⟩:∃z,Y (z=jI b):=⟨_,X R⟩;rw[<-b6.a]at G B V;clear d b2;go_wp2_with(first
  | (refine ZD (w.heap.size+1) PA b5 Q ?_)
  | (go_at_call 49;refine G.a.mono ?_;rintro e w1 ⟨v,rfl,hv,b7⟩;obtain⟨p,cap,rfl,a5,K⟩:=rJ hv))
 have P:=X (Gr.trans b3.a b7);have D:=X K;clear G hv b7 b3 b5 c1 J K;go_loopg [5,7,12] b.length (λg v _ i wr=>∃k:Nat,k+g=b.length/\i=I L k/\yt w1.heap.size v (ud (z.take k)) wr/\Gr w1 wr)
 case atStart=>exact⟨0,O,R,⟨R,Zi ⟨R,R⟩⟩,ZO⟩
 case round=>
  obtain⟨k,k1,rfl,n,a⟩:=hrel;by_cases a1:k<b.length
  .obtain⟨g,rfl,b0,x1,x2⟩:=D.a k a1 O;have h:g<w1.heap.size:=Zx b0;have b0:=(ZW a h).trans b0;have x1:=(ZW a h).trans x1;have x2:=(ZW a h).trans x2;have C:bi z[k]:=B _ (Xs _);have b4:Y (z.take (k+1)=z.take k++[z[k]]):=X (Yd O);generalize z[k]=y at b0 x1 x2 C b4;obtain⟨f,t,u⟩:=y;have o:=X n;have j:=X a;have a9:=ZR a;obtain⟨b1,hS⟩:∃b1,Y (b1=xJ (yJ (f,t,u))):=⟨_,X R⟩;have hN:Y (∀W,ZL 38 #[Zc (ZJ f t u)] W (Zb b1)):=X (λW=>by rw[hS.a];exact gK f t C.1 C.2 u W);have F:Y (Gr wr (wr.alloc (Z (ZJ f t u) 87))):=X ZN;clear n a B C;go_upto_region 5 with fail;have T:=ZQ wr (Z (ZJ f t u) 87);generalize (wr.alloc (Z (ZJ f t u) 87))=wb at F T |-;obtain⟨y0,y1,y2⟩:=qm T;clear T b0 x1 x2;go_upto_region 6 with(first
    | (go_at_call 38;refine Z0 (hN.a _) λw2 M=>?_;have c4:=Gr.trans j.a (Gr.trans F.a M);have a8:=ZR c4;have E:=X (dU o.a (Gr.trans F.a M)))
    | (at_builtin;refine Xv _ R (.tmp 16) (.tmp 19) 43 rfl w1.heap.size 9 i0 (Zb ⟨#[]⟩) 1 16 underlying43 a0.a a2 a3 a4 R WW u5 (ud (z.take k)).length ((ud (z.take k)).map Value.string) R (E.a.alloc _) ⟨w2.heap.size,0,N⟩ 1 1 [Zb b1] R R (Wp _ _ _) Vi (by unfold maxLen;rw[ud,YD,Xt];omega) (by rw[ud,YD,Xt];omega) WX ?_;intro v' w3 l H a7))
   go_wp2_with fail;go_roundg (gk-1)
   case measure=>omega
   case rel=>
    refine⟨k+1,O,Vg,?_,?_⟩
    .unfold yt;rw[b4.a,ud,Ys,Ys,qZ];rw[hS.a]at l;exact l
    .exact(c4.alloc _ _).grown H WX (qjd E.a)
  .have ek:k=b.length:=O;rw[ek,<-V,XA,b6.a]at n;have o:=X n;have j:=X a;clear n a B D;subst ek;go_wp2_with fail;go_ret;exact⟨_,R,qxn o.a (ZR P.a),Gr.trans P.a j.a⟩
theorem bZ{g:Int}(r:jE z wh fc b h g PA)(f t:Nat)(x:f<64)(E:t<64)(u:UInt8)(w:I6):ZL 194 #[Zc PA,Zc (ZJ f t u)] w (Za (Zm (vE (z f)=0)&&Zm ((t:Int)=b)&&Zm (f%8≠t%8))):=by
 have y:=r.sq f x;have D:=r.b;have p:(f:Int).tmod 8=((f%8:Nat):Int):=Vu;have v:(t:Int).tmod 8=((t%8:Nat):Int):=Vu;have l:=X (λW=>zp (z f) W);have d:Y (∀o:I0,Gr w ((w.alloc (Z PA 70)).alloc (Z o 125))):=X (λo=>ZN.al);generalize vE (z f)=n at l |-;have k:Y (((((f%8:Nat):Int) != ((t%8:Nat):Int)))=Zm (f%8≠t%8)):=X (by
  by_cases e:f%8=t%8
  .simp[e]
  .have:((f%8:Nat):Int)≠((t%8:Nat):Int):=O
   simp only[qU,ne_eq,this,e,not_false_eq_true,decide_true])
 obtain⟨q,m⟩:=Zn (Zm (f%8≠t%8));rw[m.a];have a:=k.a;rw[m.a]at a;clear m k;generalize f%8=C at p a;generalize t%8=F at v a;by_cases i:n=0
 .have A:(n==0)=Zk:=by simp[i]
  rw[qJ i];clear i;by_cases j:(t:Int)=b;have B:((t:Int)==b)=Zk:=by simp[j]
  rw[qJ j];rotate_left;have B:((t:Int)==b)=Zl:=by rw[qM];exact j
  rw[qE j];all_goals
   clear j;go_enter func194,ntmps194;go_wp2_with(go_at_call 107;refine Z1 (l.a _) ?_);go_ret;exact⟨R,d.a _⟩
 .have A:(n==0)=Zl:=by rw[qM];exact i
  rw[qE i];clear i;go_enter func194,ntmps194;go_wp2_with(go_at_call 107;refine Z1 (l.a _) ?_);go_ret;exact⟨R,d.a _⟩
theorem qxf{g:Int}(r:jE z wh fc b h g PA)(f t:Nat)(u:UInt8)(w:I6):ZL 108 #[Zc PA,Zc (ZJ f t u)] w (I L (zK wh fc f t u)):=by
 have a0:=r.size;have F:=X r.c;have y:=X (λW=>Dv r W);have q:=X (λi k W=>zr i k W);have a6:Y (∀o:I0,Gr w ((w.alloc (Z PA 70)).alloc (Z o 125))):=X (λo=>ZN.al);have B:Y (∀w',Gr ((w.alloc (Z PA 70)).alloc (Z (ZJ f t u) 125)) w'->_):=X (λw' g=>eQ g);unfold zK;go_enter func108,ntmps108;go_wp2_with fail;have H:=X (a6.a (ZJ f t u));generalize ((w.alloc (Z PA 70)).alloc (Z (ZJ f t u) 125))=a7 at B H |-;clear a6;go_loopg [5] 4 (λa3 i wr=>∃d:Nat,d+a3=4/\i=I L d/\Gr a7 wr/\gh (jZ wh fc f t u) a3 d=gh (jZ wh fc f t u) 4 0)
 case atStart=>exact⟨0,O,R,ZO,R⟩
 case round=>
  obtain⟨d,d1,rfl,a4,M⟩:=hrel;have l:=X a4;have A:=X M;clear a4 M;by_cases G:d<4
  .obtain⟨P,E⟩:=B.a _ l.a;have p:=X (vF P);have Q:wr.cell? ⟨w.heap.size,65+d,N⟩=S (Za (fc d)):=by rw[qn P];exact F.a d G
   have e:wr.cell? ⟨w.heap.size+1,0,N⟩=S (I L f):=Ta;have J:wr.cell? ⟨w.heap.size+1,1,N⟩=S (I L t):=Ta;have K:wr.cell? ⟨w.heap.size+1,2,N⟩=S (I Zg u.toNat):=Ta;clear P E;have v:Y (∀w',Gr a7 w'->w'.cell? ⟨w.heap.size+1,0,N⟩=S (I L f)/\w'.cell? ⟨w.heap.size+1,1,N⟩=S (I L t)/\w'.cell? ⟨w.heap.size+1,2,N⟩=S (I Zg u.toNat)):=X (λw' g=>by have E:=(B.a w' g).2;exact⟨Ta,Ta,Ta⟩);obtain⟨C,rfl⟩:∃C,gk=C+1:=⟨gk-1,O⟩;have D:Y (gh (jZ wh fc f t u) (C+1) d=if fc d&&(xK (Zm (d<2))==xK wh)&&((f:Int)==xY d)&&((t:Int)==vN d)&&((u.toNat:Int)==0)then(d:Int)else gh (jZ wh fc f t u) C (d+1)):=X R;obtain⟨x1,a2⟩:=Zo (xK (Zm (d<2))==xK wh);obtain⟨x2,a5⟩:=Zo ((f:Int)==xY d);obtain⟨x3,T⟩:=Zo ((t:Int)==vN d);obtain⟨x4,V⟩:=Zo ((u.toNat:Int)==0);generalize fc d=x0 at Q D;rw[a2,a5,T,V]at D;have n:=X (D.a.symm.trans A.a);clear D A B F e J K;cases x0
   .clear a2 a5 T V;go_wp2_with(first
     | (go_at_call 196;refine Z1 (q.a d G _) ?_)
     | (go_at_call 116;refine Z0 (y.a _) λa1 a=>?_;obtain⟨e,J,K⟩:=v.a _ (Gr.trans l.a a);have m:=X (Gr.trans l.a a);clear a)
     | (refine ql Vb _ R w.heap.size R a0 p.a ?_))
    go_roundg C
    case measure=>omega
    case rel=>exact⟨d+1,O,R,l.a,n.a⟩
   .cases x1
    .exact Ww
    .cases x2
     .exact Ww
     .cases x3
      .exact Ww
      .cases x4
       .exact Ww
       .skip;go_wp2_with(first
         | (go_at_call 196;refine Z1 (q.a d G _) ?_)
         | (go_at_call 116;refine Z0 (y.a _) λa1 a=>?_;obtain⟨e,J,K⟩:=v.a _ (Gr.trans l.a a);have m:=X (Gr.trans l.a a);clear a)
         | (refine ql Vb _ R w.heap.size R a0 p.a ?_))
        go_ret;exact⟨by rw[<-n.a];rfl,Gr.trans H.a m.a⟩
  .have j:d=4:=O;subst j;obtain rfl:gk=0:=O;clear B F;go_wp2_with fail;go_ret;exact⟨by rw[<-A.a];rfl,Gr.trans H.a l.a⟩
theorem fj(z:I2)(A:I0)(d:∀i,i<64->A[i]?=S (I Zg (z i).toNat))(i:Nat)(g:i<4)(w:I6):ZL 299 #[Zc A,I L (xY i),I L (zD i)] w (Za (nB z i)):=by
 have a:i=0\/i=1\/i=2\/i=3:=O;refine zh A (λn=>((z n).toNat:Int)) d (xY i) (zD i) ?_ ?_ ?_ ?_ (ll i) (AR i) ?_ ?_ ?_ ?_ ?_ ?_ w
 .exact OL
 .exact OL
 .exact OL
 .exact OL
 .exact OL
 .exact OL
 .intro j;obtain rfl|rfl|rfl|rfl:=a
  .show(4:Int)+((j+1:Nat):Int)=4+(j:Int)+8*0+1;omega
  .show(4:Int)-((j+1:Nat):Int)=4-(j:Int)+8*0+(-1);omega
  .show(60:Int)+((j+1:Nat):Int)=60+(j:Int)+8*0+1;omega
  .show(60:Int)-((j+1:Nat):Int)=60-(j:Int)+8*0+(-1);omega
 .exact OL
 .intro j b;obtain rfl|rfl|rfl|rfl:=a
  .have:j<=3:=b;show 0<=(4:Int)+(j:Int)/\(4:Int)+(j:Int)<=63;omega
  .have:j<=4:=b;show 0<=(4:Int)-(j:Int)/\(4:Int)-(j:Int)<=63;omega
  .have:j<=3:=b;show 0<=(60:Int)+(j:Int)/\(60:Int)+(j:Int)<=63;omega
  .have:j<=4:=b;show 0<=(60:Int)-(j:Int)/\(60:Int)-(j:Int)<=63;omega
 .intro j f b;obtain rfl|rfl|rfl|rfl:=a
  .have:j<3:=b;show(4:Int)+(j:Int)≠7;omega
  .have:j<4:=b;show(4:Int)-(j:Int)≠0;omega
  .have:j<3:=b;show(60:Int)+(j:Int)≠63;omega
  .have:j<4:=b;show(60:Int)-(j:Int)≠56;omega
theorem s3(i:Nat)(b:i<4):0<=xY i/\xY i<=63/\0<=vN i/\vN i<=63/\IntKind.i64.wrap (xY i+vN i)=xY i+vN i/\0<=(xY i+vN i).tdiv 2/\(xY i+vN i).tdiv 2<=63/\IntKind.i64.wrap (-(xK (Zm (i<2))))=xK (!decide (i<2)):=by have a:i=0\/i=1\/i=2\/i=3:=O;rcases a with rfl|rfl|rfl|rfl<;>decide +kernel
theorem sP{b:Nat}(h:zJ b A W):W.rangeAt b 0 (A.toList.take 64):=λj v a=>h.2 j v (by
 rw[Yv]at a;split at a
 .exact a
 .cases a)
theorem tF{g:Int}(r:jE z wh fc b h g PA)(i:Nat)(a0:i<4)(w:I6):ZL 248 #[Zc PA,I L i] w (Za (km z i)):=by
 have C:=X (λW=>zr i a0 W);obtain⟨a2,G⟩:=FN r;obtain⟨a3,a4,D,E,a6,a1,P,hs⟩:=s3 i a0;have l:=X (λW=>fj z _ G i a0 W);have j:=X (λy y0 y1 W=>ju z _ a2 G y y0 y1 (!decide (i<2)) W);have d:=X (λW (h:zJ w.heap.size PA W)=>sP h);have f:Y (∀W,Gr (w.alloc (Z PA 70)) W->zJ w.heap.size PA W):=X (λW g=>vF ((Zz g Vj).trans (ZQ w _)));have o:=X ((Gr.refl w).alloc PA 70);have n:(prog.info? 67).map (·.size)=S (PA.toList.take 64).length:=by rw[x7];simp[r.size]
 have a:=X n;have k:Y (km z i=(nB z i&&!(zM z (xY i) (!decide (i<2)))&&!(zM z ((xY i+vN i).tdiv 2) (!decide (i<2)))&&!(zM z (vN i) (!decide (i<2))))):=X R;generalize km z i=F at k |-;generalize (PA.toList.take 64)=e at l j d a;clear a2 G n;generalize xY i=K at *;generalize vN i=T at *;generalize zD i=a7 at *;generalize xK (Zm (i<2))=sd at *;go_enter func248,ntmps248;go_upto_region 2 with(go_at_call 196;refine Z1 (C.a _) ?_);have m:=X (Gr.refl (w.alloc (Z PA 70)));generalize w.alloc (Z PA 70)=wa at m f o |-;go_upto_region 3 with(first
  | (go_at_call 299;refine Z0 (l.a _) λw3 v=>?_)
  | (refine Yo R 67 _ R w.heap.size 0 R e _ (d.a _ (f.a _ m.a)) underlying67 rfl a.a ?_))
 have p:=X (Gr.trans m.a v);clear m v l;go_upto_region 4 with(first
  | (go_at_call 192;refine Z0 (j.a _ a3 a4 _) λw4 x=>?_)
  | (refine Yo R 67 _ R w.heap.size 0 R e _ (d.a _ (f.a _ p.a)) underlying67 rfl a.a ?_))
 have q:=X (Gr.trans p.a x);clear p x;have J:IntKind.i64.wrap ((K+T).tdiv 2)=(K+T).tdiv 2:=Vc;go_upto_region 5 with(first
  | (go_at_call 192;refine Z0 (j.a _ a1 P _) λw5 A=>?_)
  | (refine Yo R 67 _ R w.heap.size 0 R e _ (d.a _ (f.a _ q.a)) underlying67 rfl a.a ?_))
 have u:=X (Gr.trans q.a A);clear q A J a6;generalize (K+T).tdiv 2=M at a1 P k |-;go_upto_region 6 with(first
  | (go_at_call 192;refine Z0 (j.a _ D E _) λw6 B=>?_)
  | (refine Yo R 67 _ R w.heap.size 0 R e _ (d.a _ (f.a _ u.a)) underlying67 rfl a.a ?_))
 have H:=X (Gr.trans o.a (Gr.trans u.a B));clear u B j d f o a C;generalize zM z K (!decide (i<2))=Q at k |-;generalize zM z M (!decide (i<2))=a5 at k |-;generalize zM z T (!decide (i<2))=V at k |-;generalize nB z i=c1 at k |-;cases c1<;>cases Q<;>cases a5<;>cases V;all_goals
  go_wp2_with fail;go_ret;exact⟨by rw[k.a];rfl,H.a⟩
theorem tH(s:I4)(hs:s.size<4294967281)(w:I6):Calls prog 113 #[Zb s] w λe w'=>kT s e/\Gr w w':=by
 have g8:=X (λW=>qvl s hs 32 W);have M:=pr.size;have g7:=X (qx pr);go_enter func113,ntmps113;go_upto_region 2 with(first
  | (refine qqq R 70 #[(3,.const (I L (-1)))] R gq ?_ ?_;focus (exact CZ))
  | (refine ZC (w.heap.size+1) gq Zw M g7.a ?_))
 generalize y2:((w.alloc (Z zeroCells70 70)).alloc (Z zeroCells70 70)).setRow (w.heap.size+1) gq=w3;have f4:Fo w (w.heap.size+1) gq w3:=by rw[<-y2];exact⟨by rw[YG (show Gr (w.alloc (Z zeroCells70 70)) _ from ZN.setRow _ Vj _) _ Vj];exact Zv,Zt Zw,O,by rw[Xa,Z3,Z3];omega,ZN.al.setRow _ O _⟩
 clear y2;generalize w.heap.size+1=bp at f4 |-;go_upto_region 3 with(go_at_call 71;refine(g8.a _).mono ?_;rintro e w4 ⟨v,xs,rfl,a8,y3,t4,y6,v9⟩);obtain⟨gw,cap,rfl,r6,v2,E⟩:=C1 a8 t4;have T:=f4.next v9;have f6:gw≠bp:=by have:=f4.lp;omega
 have r7:Y (gw≠w.heap.size):=X (by have:=f4.lp;have:=f4.ne;omega);obtain⟨d0,f7⟩:=qvk 32 7 O s xs y3 t4 y6 6 O;clear f4 v9 a8 r6 g8;by_cases h6:xs.length=6
 .have t2:=d0 h6;match xs,h6 with
  | [x0,x1,a,As,x4,x5],_ =>
   have hr:=X (rW t2);have Bl:∀x∈xL 32 7 s,x.size<=s.size:=λx hx=>zc _ _ _ _ hx;rw[t2]at Bl;have z0:=Bl x0 WU;have z2:=Bl a WU;have z3:=Bl As WU;have z4:=Bl x4 WU;have z5:=Bl x5 WU;have c1:=E.at' 1 WU;simp only[X0,XJ]at c1;have r:=X E;clear Bl t2 d0 f7 y3 t4 y6 E;simp only[Yq,XN]at v2 |-;by_cases f8:(kO x1).isSome=Zk
   .have Bk:=(Fu x1).1;rw[f8]at Bk;obtain⟨wt,t3⟩:=Xr.1 f8;have m1:=(Fu x1).2 wt t3;have a9:=X t3;have hwc:=T.cell (PA:=gq) pr.wh;have t0:=T.soft 64;have s8:=X (pr.setWh wt);have l0:=T.put 64 (Za wt);have k2:=r.a.far f6 (i:=64) (v:=Za wt);have c0:=k2.at' 0 WU;simp only[XJ]at c0;have f9:=(pr.setWh wt).size;have s5:=X (qx (pr.setWh wt));have g8:=X (λW=>qvl x0 O 47 W);generalize gq.setIfInBounds 64 (Za wt)=f2 at s8 l0 f9 s5
    have hb:((x1.toList==[119])=Zk/\wt=Zk)\/((x1.toList==[119])=Zl/\(x1.toList==[98])=Zk/\wt=Zl):=by
     cases wt
     .right;rw[m1]at Bk;exact⟨m1,by simpa using Bk,R⟩
     .left;exact⟨m1,R⟩
    have k3:=X k2;clear Bk f8 t3 m1 k2 r;obtain⟨h1,rfl⟩|⟨h1,h2,rfl⟩:=hb
    all_goals
     go_upto_region 7 with(first
      | (go_at_call 71;refine(g8.a _).mono ?_;rintro e w6 ⟨v,ys,rfl,a8,y7,t5,y8,r5⟩))
     obtain⟨gr,rcap,rfl,r6,hrc,At⟩:=C1 a8 t5;have l1:=l0.next r5;have n7:=X (k3.a.next r5);have hnr:gr≠bp:=by have:=l0.lp;omega
     obtain⟨d0,f7⟩:=qvk 47 9 O x0 ys y7 t5 y8 8 O;clear l0 r5 a8 r6 g8 k3 T c0 c1 hwc t0 h1;by_cases h8:ys.length=8
     .have v1:((ys.length:Int) != 8)=Zl:=by rw[h8];rfl
      have d4:=X At;have z1:∀y∈ys,y.size<=x0.size:=λy hy=>zc _ _ _ _ (by have:=d0 h8;unfold xL at this;rw[this];exact hy);clear At;go_wp2_with(fail);go_loopg [7] 8 (λg i wr=>∃k:Nat,k+g=8/\i=I L k/\∃PA z rs,HN w bp PA wr z _ ys k rs/\Wd gr ys wr/\Wd gw [x0,x1,a,As,x4,x5] wr)
      case atStart=>exact⟨0,O,R,f2,_,[],⟨l1,s8.a,R,λi f hi=>absurd hi (Yy _)⟩,d4.a,n7.a⟩
      case round =>
       clear d4 n7 l1 s8;obtain⟨k,k1,rfl,PA,z,rs,hB,At,E⟩:=hrel;have d:=hB.row.size;have G:=X (qx hB.row);have k4:=X hB;have r:=X E;by_cases l3:k<8
       .have hk:k<ys.length:=O
        have r4:=At.at' k hk;have d4:=X At;clear At E hB;go_wp2_with fail;refine(mK ys[k] (by have:=z1 ys[k] (Xs hk);unfold maxLen;omega) _).mono ?_;rintro e w7 ⟨hrk,l2⟩;have A:=k4.a.fo.next l2;obtain⟨acc,ha,rfl⟩|⟨hn,a0,a1,a2,a3,a4,a5,a6,a7,rfl⟩:=hrk
        .obtain⟨zs,rfl,hz8,-,-⟩:=gA _ _ ha
         match zs,hz8 with
         | [b0,b1,b2,b3,b4,b5,b6,b7],_ =>
          have x3:=X ha;have H:=X (r.a.next l2);have n0:=X (d4.a.next l2);clear ha r4;simp only[nI,YM,Wi];go_wp2_with fail;have m0:(w7.alloc (Z #[I Zg b0.toNat,I Zg b1.toNat,I Zg b2.toNat,I Zg b3.toNat,I Zg b4.toNat,I Zg b5.toNat,I Zg b6.toNat,I Zg b7.toNat] 277)).heap[w7.heap.size]?=_:=Zv;have g4:Gr w7 (w7.alloc (Z #[I Zg b0.toNat,I Zg b1.toNat,I Zg b2.toNat,I Zg b3.toNat,I Zg b4.toNat,I Zg b5.toNat,I Zg b6.toNat,I Zg b7.toNat] 277)):=ZN;have u:=A.next g4;have Bg:=X (H.a.next g4);have h7:=X (n0.a.next g4);have w9:w7.heap.size≠bp:=by have:=A.lp;omega
          generalize w7.alloc _=w8 at m0 g4 u Bg h7 |-;generalize w7.heap.size=rb at m0 w9 |-;have m6:=X m0;clear H n0 A l2 g4 m0;go_loopg [10] 8 (λg f wr=>∃j:Nat,j+g=8/\f=I L j/\∃t9 z',DR w bp t9 wr z z' _ [b0,b1,b2,b3,b4,b5,b6,b7] k j rb 277/\Wd gr ys wr/\Wd gw [x0,x1,a,As,x4,x5] wr)
          case atStart=>exact⟨0,O,R,PA,z,⟨u,k4.a.row,m6.a,λf hf=>absurd hf (Yy _),λ_ _=>R⟩,h7.a,Bg.a⟩
          case round =>
           clear m6 Bg h7 u;obtain⟨j,j1,rfl,t9,z',hI,At,E⟩:=hrel;by_cases hj:j<8
           .have k8:=hI.rcell hj;have f7:=hI.fo.cell (hI.row.sq (8*(7-k)+j) O);have t0:=hI.fo.soft (8*(7-k)+j);have k5:=X (hI.step hj hj l3 w9);have d5:=X (At.far hnr (i:=8*(7-k)+j) (v:=I Zg ([b0,b1,b2,b3,b4,b5,b6,b7][j]).toNat));have f1:=X (E.far f6 (i:=8*(7-k)+j) (v:=I Zg ([b0,b1,b2,b3,b4,b5,b6,b7][j]).toNat));generalize ([b0,b1,b2,b3,b4,b5,b6,b7][j])=bj at k8 k5 d5 f1;clear hI At E;go_wp2_with fail;go_roundg (gk-1)
            case measure=>omega
            case rel=>exact⟨j+1,O,R,_,_,k5.a,d5.a,f1.a⟩
           .have hj8:j=8:=O
            subst hj8;have k5:=X (hI.done k4.a hk l3 x3.a);have d5:=X At;have f1:=X E;clear hI At E;go_wp2_with fail;go_roundg (8-k-1)
            case measure=>omega
            case rel =>
             obtain⟨rs',y1⟩:=k5.a;exact⟨k+1,O,R,_,_,rs',y1,d5.a,f1.a⟩
        .have F:Y (xG s=N):=X (by rw[hr.a];exact jr (Zi (nP (d0 h8) hk hn)));have d1:∀c t,Fo w bp PA (w7.alloc (Z c t)):=λc t=>A.next ZN
         go_wp2_with(first
          | (refine ZD bp PA (Fo.p (w:=w) (d1 _ _)) d ?_)
          | (refine ZC w.heap.size PA (Fo.res (bp:=bp) (PA:=PA) (d1 _ _)) d G.a ?_))
         exact ZS (v:=Ze #[Zc PA,Za Zl]) (qj results113 _ _ w.heap.size 70 _ (0,0) _ R (Zt (d1 _ _).res) underlying70 rfl UX) R ⟨Zj ⟨F.a,PA,d,G.a,R⟩,(d1 _ _).gr.setRow _ Zy _⟩
       .have hk8:k=8:=O
        subst hk8;have hbd:=X (hB.board (d0 h8) h8);have A:=X hB.fo;have y0:=X hB.row;clear At k4 r;clear hB;have r:=X E;clear E d0 f7 y7 t5 y8;go_wp2_with fail;simp only[h8,Int.cast_ofNat_Int];clear h8 v1 z1;go_loopg [11,12] a.size (λg la i wr=>∃k:Nat,k+g=a.size/\i=I L k/\la=I L (yR a.data.toList k)/\∃PA,Fo w bp PA wr/\jE z _ (yq a.data.toList k) (-1) 0 0 PA/\(a.data.toList=[45]\/j8 a.data.toList (-1)=j8 (a.data.toList.drop k) (yR a.data.toList k))/\Wd gw [x0,x1,a,As,x4,x5] wr)
        case atStart=>exact⟨0,O,R,R,PA,A.a,y0.a.congr (λ_ _=>R) (λi _=>by simp[yq]),Zj R,r.a⟩
        case round =>
         clear A y0 r G d;obtain⟨k,k1,rfl,rfl,PA,A,f0,x9,E⟩:=hrel;have d:=f0.size;have G:=X (qx f0);have c2:=E.at' 2 WU;simp only[X0,XJ]at c2;have r:=X E;have B:=X f0;have Bs:=X x9;clear E f0 x9;by_cases l3:k<a.size
         .have c6:=X (cL a k l3);have l4:Y (∀W:I6,Calls prog 111 #[Zb ⟨#[75,81,107,113]⟩,I Zg (a[k].toNat:Int)] W λe w'=>e=Zd (I L (kY a[k]))/\w'=W):=X (λW=>xa ⟨#[75,81,107,113]⟩ WW a[k] W);have s9:=X (rO a.data.toList k a[k] c6.a);have s0:=X (lF a.data.toList k a[k] c6.a)
          have F:Y (a.data.toList≠[45]->kY a[k]<=yR a.data.toList k->xG s=N):=X (λhn w2=>by
           rw[hr.a];refine jr (Zj (Zj (Zi (ti hn ?_))));rw[Bs.a.resolve_left hn,s9.a,qE O];rfl)
          have g6:Y (a.data.toList=[45]\/yR a.data.toList k<kY a[k]->a.data.toList=[45]\/j8 a.data.toList (-1)=j8 (a.data.toList.drop (k+1)) (yR a.data.toList (k+1))):=X (λh=>by
           by_cases hn:a.data.toList=[45]
           .exact Zi hn
           .refine Zj ?_;rw[Bs.a.resolve_left hn,s9.a,qJ (h.resolve_left hn)];rfl)
          have g9:Y (kY a[k]<0->jE z _ (yq a.data.toList (k+1)) (-1) 0 0 PA):=X (λh=>B.a.casNo c6.a h);have l5:Y (∀j:Nat,j<4->a[k]=vn j->jE z _ (yq a.data.toList (k+1)) (-1) 0 0 (PA.setIfInBounds (65+j) (Za Zk))):=X (λj hj e=>B.a.casYes hj (by rw[c6.a,e]));have k9:(a.toList==[45])=Zm (a.data.toList=[45]):=by rw[Xl];by_cases h:a.data.toList=[45]<;>simp[h]
          have hqb:=fL a[k];have Bp:Y (0<=kY a[k]->∃j:Nat,j<4/\kY a[k]=(j:Int)/\a[k]=vn j):=X (λh=>CN (c:=a[k]) h);have hlq:Y (∀l,yR a.data.toList k=l->True):=X (λ_ _=>trivial);clear s9 hlq;generalize w1:yR a.data.toList k=la at F g6;have hla':=X w1;clear w1;obtain⟨q,hq⟩:=Zo (kY a[k]);rw[hq]at l4 s0 F g6 g9 hqb Bp;clear hq Bs;by_cases f5:a.data.toList=[45]\/la<q
          .have w5:=X (g6.a f5)
           have hb:(a.toList==[45])=Zk\/((a.toList==[45])=Zl/\la<q):=by
            rw[k9];by_cases h:a.data.toList=[45]
            .exact Zi UW
            .exact Zj ⟨UW,f5.resolve_left h⟩
           clear F g6 k9 f5;obtain hd|⟨hd,hl⟩:=hb
           all_goals
            by_cases hq0:0<=q
            .obtain⟨j,j4,hj,k8⟩:=Bp.a hq0;have hcc:=A.cell (B.a.c j j4);have t0:=A.soft (65+j);have hf2:=X (A.put (65+j) (Za Zk));have hw2:=X (r.a.far f6 (i:=65+j) (v:=Za Zk));have s7:=X (l5.a j j4 k8);subst hj;clear k8 l5 g9 Bp c6 B r;go_wp2_with(go_at_call 111;refine Z1 (l4.a _) ?_);go_roundg (gk-1)
             case measure=>omega
             case rel=>exact⟨k+1,O,R,by rw[s0.a],_,hf2.a,s7.a,w5.a,hw2.a⟩
            .have s7:=X (g9.a O);clear l5 g9 Bp c6 B;go_wp2_with(go_at_call 111;refine Z1 (l4.a _) ?_);go_roundg (gk-1)
             case measure=>omega
             case rel=>exact⟨k+1,O,R,by rw[s0.a],_,A,s7.a,w5.a,r.a⟩
          .have p8:a.data.toList≠[45]:=λh=>f5 (Zi h)
           have w2:q<=la:=by
            refine Xd λh=>f5 (Zj ?_);omega
           have x8:=X (F.a p8 w2);have hd:(a.toList==[45])=Zl:=by rw[k9];simp[p8]
           clear F g6 k9 f5 l5 g9 Bp c6 B p8
           go_wp2_with(first
            | (go_at_call 111;refine Z1 (l4.a _) ?_)
            | (refine ZD bp PA (Fo.p (w:=w) A) d ?_)
            | (refine ZC w.heap.size PA (Fo.res (bp:=bp) (PA:=PA) A) d G.a ?_))
           exact ZS (v:=Ze #[Zc PA,Za Zl]) (qj results113 _ _ w.heap.size 70 _ (0,0) _ R (Zt A.res) underlying70 rfl UX) R ⟨Zj ⟨x8.a,PA,d,G.a,R⟩,A.gr.setRow _ Zy _⟩
         .have ek:k=a.size:=O
          subst ek;have k0:Y (jE z _ (yq a.data.toList a.data.toList.length) (-1) 0 0 PA):=X (by have:=B.a;rwa[show a.size=a.data.toList.length from WU]at this);have v3:Y (a.data.toList=[45]\/j8 a.data.toList (-1)=Zk):=X (Bs.a.imp id (λh=>by rw[h,Ws WU];rfl));have w0:Y (gw≠w.heap.size):=X r7.a;have c4:=r.a.at' 4 WU;simp only[X0,XJ]at c4;have r0:=A.cell B.a.h;have s70:=A.soft 70;have s1:=X (λW=>qzj x4 Vk W);have s2:=X (λW=>qzj x5 Vk W);obtain⟨n4,d2⟩:=Zn (kV x4.data.toList);obtain⟨n5,d3⟩:=Zn (kV x5.data.toList);rw[d2.a]at s1;rw[d3.a]at s2;clear Bs B d G;go_upto_region 30 with(go_at_call 199;refine Z1 (s1.a _) ?_);have Bn:=A.put 70 (I L n4);have P:=X (k0.a.setH n4);have Q:=X (r.a.far f6 (i:=70) (v:=I L n4));generalize PA.setIfInBounds 70 (I L n4)=z9 at Bn P;generalize World.setCell _ ⟨bp,70,N⟩ (I L n4)=w66 at Bn Q |-;have c5:=Q.a.at' 5 WU;simp only[X0,XJ]at c5;have r1:=Bn.cell P.a.g;have s71:=Bn.soft 71;clear A r k0 c4 c2 r0 s70 s1;go_upto_region 31 with(go_at_call 199;refine Z1 (s2.a _) ?_);have V:=Bn.put 71 (I L n5);have J:=X (P.a.setG n5);have H:=X (Q.a.far f6 (i:=71) (v:=I L n5));generalize z9.setIfInBounds 71 (I L n5)=x2 at V J;generalize World.setCell _ ⟨bp,71,N⟩ (I L n5)=w77 at V H |-;have c3:=H.a.at' 3 WU;simp only[X0,XJ]at c3;clear Bn Q P c5 r1 s71 s2;have g0:Y ((As.toList==[45])=Zm (As.toList=[45])):=X (by by_cases h:As.toList=[45]<;>simp[h])
          obtain⟨cb,p7⟩:=Zo (As.toList==[45]);go_upto_if 118 with fail;go_cut [118]from 119 to 127 (λ_ wx=>∃PA b wv,Fo w bp PA wx/\kO x1=S wv/\jE z wv (yq a.data.toList a.data.toList.length) b n4 n5 PA/\Wd gw [x0,x1,a,As,x4,x5] wx/\v8 As=S b)
          case first =>
           cases cb
           .have h3:¬ As.toList=[45]:=Ot
            have t1:=X (λW=>zb As W);have v0:=V.cell J.a.b;have s69:=V.soft 69;obtain⟨b3,r2⟩:=Zn (dJ As);rw[r2.a]at t1;have r3:Y (if 0<=b3 then v8 As=S b3 else(v8 As).isSome=Zl):=X (Et h3 r2.a);clear g0 h3 r2;go_upto_region 33 with(go_at_call 104;refine Z1 (t1.a _) ?_);have u:=V.put 69 (I L b3);have m:=X (J.a.setB b3);have Bg:=X (H.a.far f6 (i:=69) (v:=I L b3));generalize x2.setIfInBounds 69 (I L b3)=PA at u m;generalize World.setCell _ ⟨bp,69,N⟩ (I L b3)=w8 at u Bg |-;clear V H J c3 v0 s69 t1;have v0:=u.cell m.a.b;by_cases h0:0<=b3
            .have f3:Y (v8 As=S b3):=X (by have:=r3.a;rwa[qI h0]at this);clear r3;go_wp2_with fail;go_meet
             case rel=>exact⟨_,_,_,u,a9.a,m.a,Bg.a,f3.a⟩
            .have F:Y (xG s=N):=X (by rw[hr.a];exact jr (Zj (Zj (Zj (Zi (by have:=r3.a;rwa[qF h0]at this))))));have d:=m.a.size;have G:=X (qx m.a)
             go_wp2_with(first
              | (refine ZD bp PA (Fo.p (w:=w) u) d ?_)
              | (refine ZC w.heap.size PA (Fo.res (bp:=bp) (PA:=PA) u) d G.a ?_))
             exact ZS (v:=Ze #[Zc PA,Za Zl]) (qj results113 _ _ w.heap.size 70 _ (0,0) _ R (Zt u.res) underlying70 rfl UX) R ⟨Zj ⟨F.a,PA,d,G.a,R⟩,u.gr.setRow _ Zy _⟩
           .have h3:As.toList=[45]:=Ot
            have f3:Y (v8 As=S (-1)):=X (by unfold v8;rw[qI h3]);clear g0 h3;go_wp2_with fail;go_meet
            case rel=>exact⟨_,_,_,V,a9.a,J.a,H.a,f3.a⟩
          case rest =>
           clear V J H c3 g0 a9 p7;obtain⟨PA,b,wv,u,p0,h9,n3,m2⟩:=hcut;have a9:=X p0;have m:=X h9;have Bg:=X n3;have f3:=X m2;clear p0 h9 n3 m2;go_upto_region 35 with fail;have d:=m.a.size;have G:=X (qx m.a);have r0:=u.cell m.a.h;have r1:=u.cell m.a.g;have c2:=Bg.a.at' 2 WU;simp only[X0,XJ]at c2;have g1:Y (a.data.toList=[]->kT s (Zd (Ze #[Zc PA,Za Zl]))):=X (λh=>Zj ⟨by rw[hr.a];exact jr (Zj (Zj (Zi (by rw[h];exact tf)))),PA,d,G.a,R⟩);have g3:Y (¬ 0<=n4->kT s (Zd (Ze #[Zc PA,Za Zl]))):=X (λh=>Zj ⟨by rw[hr.a];exact jr (Zj (Zj (Zj (Zj (Zi (iw (by rw[d2.a];exact h))))))),PA,d,G.a,R⟩);have g2:Y (¬ 0<=n5->kT s (Zd (Ze #[Zc PA,Za Zl]))):=X (λh=>Zj ⟨by rw[hr.a];exact jr (Zj (Zj (Zj (Zj (Zj (iw (by rw[d3.a];exact h))))))),PA,d,G.a,R⟩)
           have g5:Y (a.data.toList≠[]->0<=n4->0<=n5->kT s (Zd (Ze #[Zc PA,Za Zk]))):=X (λh0 h4 h5=>by
            have hq:=m.a;rw[<-d2.a,<-d3.a]at hq;obtain⟨p,hp,e⟩:=tG hr.a hbd.a a9.a h0 v3.a f3.a (by rw[d2.a];exact h4) (by rw[d3.a];exact h5) hq;exact Zi ⟨p,hp,by rw[e]⟩)
           have v4:Y ((a.toList==[])=Zm (a.data.toList=[])):=X (by rw[Xl];cases a.data.toList<;>simp)
           clear m Bg f3;obtain⟨em,hem⟩:=Zo (a.toList==[]);obtain⟨y4,h4⟩:=Zo (Zm (0<=n4));obtain⟨y5,h5⟩:=Zo (Zm (0<=n5))
           have v5:Y (kT s (Zd (Ze #[Zc PA,Za (!em&&y4&&y5)]))):=X (by
            have hd:=v4.a.symm.trans hem;cases em
            .cases y4
             .exact g3.a (of_decide_eq_false h4)
             .cases y5
              .exact g2.a (of_decide_eq_false h5)
              .exact g5.a (of_decide_eq_false hd) (q8 h4) (q8 h5)
            .exact g1.a (q8 hd))
           clear g1 g3 g2 g5 v4;have a8:HI bp gw PA a n4 n5 wc.drew:=⟨⟨(show bp<wc.heap.size from u.lp),(qy u.p).2⟩,c2,r0,r1⟩;refine ZT (S:=HI bp gw PA a n4 n5) WR a8 (λo=>?_);refine ty 0 (Zc PA) R (zy d Vb _ R bp R (λ_ h=>h.1)) o ?_;refine ty 1 (Zq (S ⟨gw,0,N⟩) 6 cap) R (Or.inl ⟨Vb,λW D=>?_⟩) o ?_
           .obtain⟨q1,q2,q3,q4⟩:=D;clear o;go_simp
           refine ty 2 (.pointer (S ⟨gw,2,N⟩)) R (Or.inl ⟨Vb,λW D=>?_⟩) o ?_
           .obtain⟨q1,q2,q3,q4⟩:=D;clear o;go_simp
           refine ty 3 (Zb a) R (Or.inl ⟨Vb,λW D=>?_⟩) o ?_
           .obtain⟨q1,q2,q3,q4⟩:=D;clear o;go_simp
           refine ty 4 (Za (!em)) R (Or.inl ⟨Vb,λW D=>?_⟩) o ?_
           .obtain⟨q1,q2,q3,q4⟩:=D;clear o;go_simp
           refine ty 5 (Za (!em)) R (Or.inl ⟨Vb,λW D=>?_⟩) o ?_
           .obtain⟨q1,q2,q3,q4⟩:=D;clear o;go_simp
           cases em
           case' true =>
            refine ZA 6 o ?_;refine ZA 7 o ?_;refine ZA 8 o ?_;refine ty 9 (Za Zl) R (Or.inl ⟨Vb,λW D=>?_⟩) o ?_
            .obtain⟨q1,q2,q3,q4⟩:=D;clear o;go_simp
            refine ty 10 (Za Zl) R (Or.inl ⟨Vb,λW D=>?_⟩) o ?_
            .obtain⟨q1,q2,q3,q4⟩:=D;clear o;go_simp
            refine ZA 11 o ?_;refine ZA 12 o ?_;refine ZA 13 o ?_;refine ty 14 (Za Zl) R (Or.inl ⟨Vb,λW D=>?_⟩) o ?_
            .obtain⟨q1,q2,q3,q4⟩:=D;clear o;go_simp
           case' false =>
            refine ty 6 (.pointer (S ⟨bp,70,N⟩)) R (Or.inl ⟨Vb,λW D=>?_⟩) o ?_
            .obtain⟨q1,q2,q3,q4⟩:=D;clear o;go_simp
            refine ty 7 (I L n4) R (Or.inl ⟨Vb,λW D=>?_⟩) o ?_
            .obtain⟨q1,q2,q3,q4⟩:=D;clear o;go_simp
            refine ty 8 (Za y4) R (Or.inl ⟨Vb,λW D=>?_⟩) o ?_
            .obtain⟨q1,q2,q3,q4⟩:=D;clear o;go_simp
            refine ty 9 (Za y4) R (Or.inl ⟨Vb,λW D=>?_⟩) o ?_
            .obtain⟨q1,q2,q3,q4⟩:=D;clear o;go_simp
            refine ty 10 (Za y4) R (Or.inl ⟨Vb,λW D=>?_⟩) o ?_
            .obtain⟨q1,q2,q3,q4⟩:=D;clear o;go_simp
            cases y4
            case' false =>
             refine ZA 11 o ?_;refine ZA 12 o ?_;refine ZA 13 o ?_;refine ty 14 (Za Zl) R (Or.inl ⟨Vb,λW D=>?_⟩) o ?_
             .obtain⟨q1,q2,q3,q4⟩:=D;clear o;go_simp
            case' true =>
             refine ty 11 (.pointer (S ⟨bp,71,N⟩)) R (Or.inl ⟨Vb,λW D=>?_⟩) o ?_
             .obtain⟨q1,q2,q3,q4⟩:=D;clear o;go_simp
             refine ty 12 (I L n5) R (Or.inl ⟨Vb,λW D=>?_⟩) o ?_
             .obtain⟨q1,q2,q3,q4⟩:=D;clear o;go_simp
             refine ty 13 (Za y5) R (Or.inl ⟨Vb,λW D=>?_⟩) o ?_
             .obtain⟨q1,q2,q3,q4⟩:=D;clear o;go_simp
             refine ty 14 (Za y5) R (Or.inl ⟨Vb,λW D=>?_⟩) o ?_
             .obtain⟨q1,q2,q3,q4⟩:=D;clear o;go_simp
           all_goals
            refine rd 15 λK hK=>?_;rw[qI Vb];refine YQ 70 _ _ R w.heap.size PA R R 70 zeroCells70 (Fo.res (bp:=bp) (PA:=PA) (cur:=wc) u) UX (by rw[d];exact xF.symm) G.a ?_;refine hK.out _ _ (o.far u.ne w0.a) λo=>?_;clear hK K;simp only[py];refine rd 16 λK hK=>?_;go_simp;refine hK.out _ _ o λo=>?_;clear hK K;refine ZZ WR ?_ _;clear o a8;go_wp2_with fail;exact ZS (v:=Ze #[Zc PA,Za _]) (qj results113 _ _ w.heap.size 70 _ (0,0) _ R (Zt (Fo.res (bp:=bp) (PA:=PA) (cur:=wc) u)) underlying70 rfl UX) R ⟨v5.a,u.gr.drew.setRow _ Zy _⟩
     .have F:Y (xG s=N):=X (by rw[hr.a];exact jr (Zi (nN (f7 h8))));have v1:((ys.length:Int) != 8)=Zk:=qU.2 O
      go_wp2_with(first
       | (refine ZD bp f2 (Fo.p (w:=w) ‹_›) f9 ?_)
       | (refine ZC w.heap.size f2 (Fo.res (bp:=bp) (PA:=f2) ‹_›) f9 s5.a ?_))
      exact ZS (v:=Ze #[Zc f2,Za Zl]) (qj results113 _ _ w.heap.size 70 _ (0,0) _ R (Zt l1.res) underlying70 rfl (by rw[f9];exact q9)) R ⟨Zj ⟨F.a,f2,f9,s5.a,R⟩,l1.gr.setRow _ Zy _⟩
   .have F:Y (xG s=N):=X (by rw[hr.a];exact jr (Zj (Zi (by simpa using f8))));have Bk:=(Fu x1).1;rw[show(kO x1).isSome=Zl by simpa using f8]at Bk;obtain⟨n1,n2⟩:(x1.toList==[119])=Zl/\(x1.toList==[98])=Zl:=by simpa using Bk
    clear f8 Bk
    go_wp2_with(first
     | (refine ZD bp gq (Fo.p (w:=w) ‹_›) M ?_)
     | (refine ZC w.heap.size gq (Fo.res (bp:=bp) (PA:=gq) ‹_›) M g7.a ?_))
    exact ZS (v:=Ze #[Zc gq,Za Zl]) (qj results113 _ _ w.heap.size 70 _ (0,0) _ R (Zt T.res) underlying70 rfl (by rw[M];exact q9)) R ⟨Zj ⟨F.a,gq,M,g7.a,R⟩,T.gr.setRow _ Zy _⟩
 .have F:Y (xG s=N):=X (rV (f7 h6));have h6i:((xs.length:Int) != 6)=Zk:=qU.2 O;go_wp2_with(first
   | (refine ZD bp gq (Fo.p (w:=w) ‹_›) M ?_)
   | (refine ZC w.heap.size gq (Fo.res (bp:=bp) (PA:=gq) ‹_›) M g7.a ?_))
  exact ZS (v:=Ze #[Zc gq,Za Zl]) (qj results113 _ _ w.heap.size 70 _ (0,0) _ R (Zt T.res) underlying70 rfl (by rw[M];exact q9)) R ⟨Zj ⟨F.a,gq,M,g7.a,R⟩,T.gr.setRow _ Zy _⟩
theorem kT.plain{s:I4}{e:Ending}(h:kT s e):∃A ok,e=Zd (Ze #[Zc A,Za ok])/\A.size=72/\A.all (·.oneCell')=Zk/\(ok=Zk->∃p,xG s=S p/\A=jV p)/\(ok=Zl->xG s=N):=by
 obtain⟨p,a,rfl⟩|⟨a,A,f,g,rfl⟩:=h
 .exact Ic
 .exact⟨A,Zl,R,f,g,(λh=>Ub),λ_=>a⟩
structure Pr(w:I6)(bp:Nat)(A:I0)(cur:I6):Prop where
 res:cur.heap[w.heap.size]?=S (Z zeroCells70 70)
 p:cur.heap[bp]?=S (Z A 70)
 lt:bp<cur.heap.size
 lr:w.heap.size<cur.heap.size
 gr:Gr w cur
theorem Pr.next{cur:I6}{bp:Nat}(h:Pr w bp A cur)(g:Gr cur a):Pr w bp A a :=
 ⟨by rw[Zz g h.lr];exact h.res,Oq,qN h.lt (ZR g),qN h.lr (ZR g),Gr.trans h.gr g⟩
theorem qvq(s:I4)(G:s.size<4294967281)(w:I6):Calls prog 53 #[Zb s] w λe w'=>zA s e/\Gr w w':=by
 have x:Gr w (w.alloc (Z zeroCells70 70)):=ZN;have F:Y (Calls prog 113 #[Zb s] (w.alloc (Z zeroCells70 70)) λe w'=>∃A ok,e=Zd (Ze #[Zc A,Za ok])/\A.size=72/\A.all (·.oneCell')=Zk/\(ok=Zk->∃p,xG s=S p/\A=jV p)/\(ok=Zl->xG s=N)/\Gr (w.alloc (Z zeroCells70 70)) w'):=X ((tH s G _).mono λe w' h=>by obtain⟨A,ok,v,J,K,P,M⟩:=h.1.plain;exact⟨A,ok,v,J,K,P,M,h.2⟩);have u:Y ((w.alloc (Z zeroCells70 70)).heap[w.heap.size]?=S (Z zeroCells70 70)):=X Zv;have n:Y (w.heap.size<(w.alloc (Z zeroCells70 70)).heap.size):=X Vj;have k:=X x;clear x G;go_enter func53,ntmps53;go_upto_region 2 with(first
  | (go_at_call 113;refine F.a.mono ?_;rintro e l ⟨A,ok,rfl,o,E,D,B,y⟩)
  | (refine ZC l.heap.size A Zv o E ?_))
 generalize j:(l.alloc (Z zeroCells70 70)).setRow l.heap.size A=H;have z:Gr l H:=by rw[<-j];exact ZN.setRow _ Zy _
 have d:=Gr.trans y z;have C:Pr w l.heap.size A H:=⟨by rw[Zz d n.a];exact u.a,by rw[<-j];exact Zt (Z7 l _),by rw[<-j,Xa,Z3];omega,qN n.a (ZR d),Gr.trans k.a d⟩;generalize l.heap.size=bp at C |-;clear j z d y F u n k;cases ok
 .have a:Y (zA s (Zd (Ze #[Zc zeroCells70,I L 1]))):=X (Zj (Zj ⟨B R,R⟩));clear B D;go_wp2_with(refine ZC w.heap.size zeroCells70 (Pr.res (bp:=bp) (A:=A) ‹_›) xF xH ?_);exact ZS (v:=Ze #[Zc zeroCells70,I L 1]) (qj results53 _ _ w.heap.size 70 _ (0,0) _ R (Zt C.res) underlying70 rfl Vz) R ⟨a.a,C.gr.setRow _ Zy _⟩
 .obtain⟨p,f,i⟩:=D R;have b:Y (∀W:I6,ZL 114 #[Zc A] W (Za (xP p))):=X λW=>by rw[i];exact CW (jo f) W
  clear D B;obtain⟨q,r⟩:=Zo (xP p);cases q
  .have a:Y (zA s (Zd (Ze #[Zc zeroCells70,I L 2]))):=X (Zj (Zi ⟨p,f,r,R⟩));rw[r]at b;clear f i r;go_wp2_with(first|(refine ZC w.heap.size zeroCells70 (Pr.res (bp:=bp) (A:=A) ‹_›) xF xH ?_)|(refine ZD bp A (Pr.p (w:=w) ‹_›) o ?_)|(go_at_call 114;refine Z0 (b.a _) λQ m=>?_;have g:=Pr.next ‹_› m));exact ZS (v:=Ze #[Zc zeroCells70,I L 2]) (qj results53 _ _ w.heap.size 70 _ (0,0) _ R (Zt g.res) underlying70 rfl Vz) R ⟨a.a,g.gr.setRow _ Zy _⟩
  .have a:Y (zA s (Zd (Ze #[Zc A,I L 0]))):=X (Zi ⟨p,f,r,by rw[i]⟩);rw[r]at b;clear f i r;go_wp2_with(first|(refine ZC w.heap.size A (Pr.res (bp:=bp) (A:=A) ‹_›) o E ?_)|(refine ZD bp A (Pr.p (w:=w) ‹_›) o ?_)|(go_at_call 114;refine Z0 (b.a _) λQ m=>?_;have g:=Pr.next ‹_› m));exact ZS (v:=Ze #[Zc A,I L 0]) (qj results53 _ _ w.heap.size 70 _ (0,0) _ R (Zt g.res) underlying70 rfl (by rw[o];exact q9)) R ⟨a.a,g.gr.setRow _ Zy _⟩
theorem BQ(e:Int)(w:I6):Calls prog 30 #[I L e] w λr w'=>r=Zd (I L e)/\w'=w:=by go_enter func30,ntmps30;exact Wz
structure Tb(w:I6)(b:Nat)(A:I0)(cur:I6):Prop where
 gr:Gr w cur
 p:cur.heap[b]?=S (Z A 70)
 lt:b<cur.heap.size
theorem Tb.next{cur:I6}{b:Nat}(h:Tb w b A cur)(g:Gr cur a):Tb w b A a :=
 ⟨Gr.trans h.gr g,Oq,qN h.lt (ZR g)⟩
def yT:I4:=⟨#[52,107,51,47,56,47,56,47,56,47,56,47,56,47,56,47,52,75,51,32,119,32,45,32,45,32,48,32,49]⟩
theorem mn:(xG yT).map xP=S Zk:=WS
theorem fJ:∃p,xG yT=S p/\xP p=Zk:=Xp.1 mn
end Go.Proofs.YtnfakamfmkhlbabGreatDoor.C
